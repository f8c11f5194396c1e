/- Contracts. -/
import Derived.Test.YtikffmloeifkpaaGreatDoorR14
set_option maxHeartbeats 16000000
set_option maxRecDepth 100000
namespace Go.Proofs.YtikffmloeifkpaaGreatDoor
open Go.RowKit Go.Lib Go.Deep Go.ChangeMaps Go.MapKept Tryz
section
def bN:Tr->Nat
 | .nil=>99
 | .node _ _ a _ _=>a.a
def gaT:Tr->Nat->Nat->Tr
 | .nil,_,_=> .nil
 | .node b o a e r,Y,R=>if bN e=16 then .node b o a (iX e Y) (gaT r (Y+1) R)else .node b o a (iX e R) (gaT r Y (R+1))
def gaF:Tr->Nat->cM->cM
 | .nil,_,F=>F
 | .node _ _ _ e r,i,F=>gaF r (i+1) (if(bCK (eI e) F).isSome then F else put (eI e) i F)
def nH(k:Nat):Tr->List Value
 | .nil=>[]
 | .node _ _ _ e r=>if bN e=k then cB e::nH k r else nH k r
def qM(it D M:Value)(n:Int)(B:Value):Array Value:=#[it,D,M,Qc n,B]
def PA(L:Tr):TypeId->Int->Prop:=fun ty p=>(ty=196\/ty=105)/\p∈ps L
theorem PA.e{L:Tr}(t:TypeId)(p:Int)(h:PA L t p):cU t:=by rcases h.1 with h|h<;>rw[h]<;>simp[cU]
structure GaW(H O N I U:Nat)(it:Value)(Q:World)(L:Tr)(i Y R:Nat)(F:cM)(D M:Value)(G K:List Value)(wr:World):Prop where
 blk:wr.1[N]?=some (.cells (bD0 O I U ⟨[],0,0⟩) 149 (0,0))
 prog:wr.1[O]?=some (.cells (qM it D M 0 (.slice none 0 0)) 111 (0,0))
 first:Mp wr I F.length F
 b:Mp wr U 0 []
 ne:I≠U
 ge:H<=N/\H<=O/\H<=I/\H<=U
 fr:Fw H (PA L) Q wr
 rest:IsT wr (aL i L)
 wand:∀ w2,Fw H (PA (aL i L)) wr w2->IsT w2 (gaT (aL i L) Y R)->IsT w2 (gaT L 0 0)
 ownA:wr.ownsRow H 192 1 D Y G
 ownF:wr.ownsRow H 106 1 M R K
 hA:G++nH 16 (aL i L)=nH 16 L
 hF:K++nH 17 (aL i L)=nH 17 L
 cnt:Y+R=i
theorem bEH{w:World}{a n c k:Nat}{e:TypeId}{v:Value}{d:List Value}(h:w.ownsRow a e c v n d)(m:v.ownBlock=some k):(∃ b,w.1[k]?=some (.cells b e (0,0)))/\a<=k:=by
 rcases h.2 with⟨p,_⟩|⟨i,f,g,o,j,l,_⟩
 ·grind[Value.ownBlock]
 grind[Value.ownBlock]
theorem cD{w w':World}{a n c:Nat}{e:TypeId}{v:Value}{d:List Value}(h:w.ownsRow a e c v n d)(l:∀ k,v.ownBlock=some k->w'.1[k]?=w.1[k]?):w'.ownsRow a e c v n d:=by
 refine⟨h.1,?_⟩;rcases h.2 with m|⟨g,J,f,b,i,j,r⟩
 ·simp[*]
 ·exact .r ⟨g,J,f,b,i,(l g (by rw[b];rfl)).t j,r⟩
theorem FrX.grown{X:TypeId->Prop}{H:Nat}{P:TypeId->Int->Prop}{u w w':World}{d:Option Nat}(h:FrX X H P u w)(a:w.grownBy w' d)(f:H<=w.1.size)(g:∀ k,d=some k->H<=k/\∀ b t,X t->w.1[k]?≠some (.cells b t (0,0))):FrX X H P u w':=by
 refine h.t ⟨a.os,a.tape,a.output,a.size,fun k c=>a.block k Oa (fun e=>?_),fun k b t i c=>⟨b,(a.block k Qg (fun e=>?_)).t c,Od⟩⟩
 ·grind
 grind
theorem iB{e:Tr}(h:Ws 7 e):∃ b o a l r,e= .node b o a l r/\(a.a=16\/a.a=17):=by
 cases e with
 |nil=>grind[Ws,bK]
 |node b o a l r=>
  obtain⟨_,x,y,c,_⟩:=h.parts
  grind[sig]
theorem Mp.ne_cells{w:World}{b n k:Nat}{l:cM}(h:Mp w b n l){cs:Array Value}{t:TypeId}(d:w.1[k]?=some (.cells cs t (0,0))):b≠k:=by
 obtain⟨c,a,e⟩:=h.ismap
 grind
theorem bEF{w:World}{k j:Nat}{cs a:Array Value}{t C:TypeId}(c:w.1[k]?=some (.cells cs t (0,0)))(b:w.1[j]?=some (.cells a C (0,0)))(h:t≠C):k≠j:=by
 grind
theorem aHQ{k:Nat}{w w':World}{a:Nd}{l r:Tr}{i:Int}(h:Own w k a l r)(b:a.a=16\/a.a=17)(s:∀ (cs:Array Value) (t:TypeId),w.1[k]?=some (.cells cs t (0,0))->w'.1[k]?=some (.cells (cs.setIfInBounds 2 (Qc i)) t (0,0))):Own w' k {a with c:=i} l r:=by
 unfold Own at h ⊢;dsimp only;have ne:∀ {cs:Array Value} {j:Nat} {v:Value} {x:Value},2≠j->cs[j]?=some v->(cs.setIfInBounds 2 x)[j]?=some v:=Qg;rcases b with b|b<;>rw[b]at h ⊢
 ·obtain⟨cs,m,d,f,g⟩:=h;exact⟨_,Qg,d.set _,Qh,Qh⟩
 ·obtain⟨cs,m,d,f,x,y,z,p,q,e,g,n,o⟩:=h;exact⟨_,Qg,d.set _,Qh,x,y,z,p,q,e,Qh,Qh,Qh⟩
theorem bCV:∀ (t:Tr) (Y R:Nat),Ws 18 t->Sh t (gaT t Y R):=by
 intro t
 induction t with
 |nil=>intro _ _ _;trivial
 |node b o a e r _ ih=>
  intro Y R c;obtain⟨_,d,f⟩:=aY Ot c
  grind[Sh,iX,gaT,iB,Sh.refl]
variable {H O N I U:Nat} {it:Value} {Q wr w' W3:World} {L:Tr} {i Y R:Nat} {F S:cM} {D M:Value} {G K:List Value}
theorem GaW.put(h:GaW H O N I U it Q L i Y R F D M G K wr)(s:Ws 18 L){n:Nat}(q:Mp w' I n S)(c:wr.mapTurned w' I):GaW H O N I U it Q L i Y R S D M G K w':=by
 have e:∀ (k:Nat) (a:Array Value) (t:TypeId),wr.1[k]?=some (.cells a t (0,0))->w'.1[k]?=wr.1[k]?:=by
  intro k a t b;obtain⟨l,g,m,j,f,rfl⟩:=c
  grind[heap_setBlock_other]
 have r:w'.1[U]?=wr.1[U]?:=by
  obtain⟨l,g,m,j,f,rfl⟩:=c;exact heap_setBlock_other f _ h.ne.symm
 have u:Fw H (PA L) wr w':=(Fw.refl _ _ _).turned h.ge.2.2.1 c;have d:Fw H F0 wr w':=(Fw.refl _ _ _).turned h.ge.2.2.1 c;refine⟨(e _ _ _ h.blk).t h.blk,(e _ _ _ h.prog).t h.prog,q.tight,h.b.same r,h.ne,h.ge,h.fr.t u,?_,fun v o hi=>h.wand v ((d.mono F0.to).t o) hi,?_,?_,h.hA,h.hF,h.cnt⟩
 ·exact IsT.fw d (fun t x w=>Qj) (eX Ot i _ s) h.rest (fun _ _ _ h=>h)
 ·exact cD h.ownA (fun k b=>by obtain⟨⟨a,p⟩,_⟩:=bEH h.ownA b;grind)
 ·exact cD h.ownF (fun k b=>by obtain⟨⟨a,p⟩,_⟩:=bEH h.ownF b;grind)
def aAF(k:Int):TypeId->Int->Prop:=fun ty p=>(ty=196\/ty=105)/\p=k
theorem aAF.e{k:Int}(t:TypeId)(p:Int)(h:aAF k t p):cU t:=by rcases h.1 with h|h<;>rw[h]<;>simp[cU]
theorem GaW.stepA(h:GaW H O N I U it Q L i Y R F D M G K wr)(Z:Ws 18 L)(y2:(ps L).Nodup)(hF:aUI H L){b o d q g J:Nat}{a f:Nd}{x y r:Tr}(hd:aL i L= .node b o a (.node d q f x y) r)(C:aL (i+1) L=r)(X:f.a=16)(own:W3.ownsRow H 192 1 (Qe g (Y+1) J) (Y+1) (G++[Qd d]))(grow:((wr.setCell ⟨d,2,none⟩ (Qc Y)).alloc (Qf #[Qd d] 192)).grownBy W3 D.ownBlock)(y6:D.ownBlock=some g\/g=wr.1.size+1):
 GaW H O N I U it Q L (i+1) (Y+1) R F (Qe g (Y+1) J) M (G++[Qd d]) K (W3.setCell ⟨O,1,none⟩ (Qe g (Y+1) J))/\(W3.setCell ⟨O,1,none⟩ (Qe g (Y+1) J)).cell? ⟨d,0,none⟩=some (.string f.h):=by
 have h9:=eX Ot i _ Z;have E:=lT i _ y2;have k1:=rU i L;have k3:=lO i L hF;have w:=h.rest;have h1:=h.wand;have hA:=h.hA;have k4:=h.hF;rw[hd]at h9 E k1 k3 w h1 hA k4;obtain⟨y8,h8,k7⟩:=aY Ot h9;have E:=dZ E;have y4:H<=d:=k3.1.2.2 (by unfold gY;omega);have h4:=w.1.2.2
 obtain⟨s,v,V⟩:∃ s,wr.1[d]?=some (.cells s 196 (0,0))/\Nam s 0 f:=by
  obtain⟨s,v,V,_⟩:=aI h4 (n:=16) X;simp[*]
 have z:f.b∈ps (.node d q f x y):=(by grind[po,eO,aAU]);have hH:=Qm h.ge.1 (Nat.le_of_lt (Oo h.blk));have q1:∀ k,k≠d->(wr.setCell ⟨d,2,none⟩ (Qc Y)).1[k]?=wr.1[k]?:=(by grind[Below.heap_setCell]);have s1:(wr.setCell ⟨d,2,none⟩ (Qc (Y:Int))).1.size=wr.1.size:=Od
 have z1:(wr.setCell ⟨d,2,none⟩ (Qc (Y:Int))).1[d]?=some (.cells (s.setIfInBounds 2 (Qc Y)) 196 (0,0)):=aM _ v;have q2:∀ k,k < wr.1.size->((wr.setCell ⟨d,2,none⟩ (Qc Y)).alloc (Qf #[Qd d] 192)).1[k]?=(wr.setCell ⟨d,2,none⟩ (Qc Y)).1[k]?:=(by grind[Below.heap_alloc]);have s2:((wr.setCell ⟨d,2,none⟩ (Qc (Y:Int))).alloc (Qf #[Qd d] 192)).1.size=wr.1.size+1:=Od
 have q3:∀ k,k < wr.1.size->D.ownBlock≠some k->W3.1[k]?=((wr.setCell ⟨d,2,none⟩ (Qc Y)).alloc (Qf #[Qd d] 192)).1[k]?:=fun k m y1=>grow.block k Oa Qg
 have k9:∀ (k:Nat) (c:Array Value) (t:TypeId),wr.1[k]?=some (.cells c t (0,0))->t≠192->D.ownBlock≠some k:=by
  intro k c t m y1 e;obtain⟨⟨c2,u⟩,_⟩:=bEH h.ownA e
  grind
 have k8:∀ k n l,Mp wr k n l->D.ownBlock≠some k:=by
  intro k n l m e;obtain⟨⟨c2,u⟩,_⟩:=bEH h.ownA e;exact m.ne_cells u rfl
 have b4:g≠O:=by
  rcases y6 with e|e
  ·intro e2;rw[e2]at e;exact k9 O _ _ h.prog Ob e
  ·have:=(Oo h.prog);omega
 have a2:∀ (k:Nat) (c:Array Value) (t:TypeId),wr.1[k]?=some (.cells c t (0,0))->t≠192->k≠d->W3.1[k]?=some (.cells c t (0,0)):=by
  grind
 have a8:O≠d:=bEF h.prog v Ob;have a9:N≠d:=bEF h.blk v Ob;have b1:N≠O:=bEF h.blk h.prog Ob;have a4:=a2 O _ _ h.prog Ob a8
 have a3:∀ k n l,Mp wr k n l->Mp (W3.setCell ⟨O,1,none⟩ (Qe g (Y+1) J)) k n l:=by
  intro k n l m;have B:=m.lt;refine m.same ((Om (m.ne_cells h.prog)).t ?_);rw[q3 k B (k8 k n l m),q2 k B,q1 k (m.ne_cells v)]
 have b2:W3.1[d]?=some (.cells (s.setIfInBounds 2 (Qc Y)) 196 (0,0)):=by
  grind
 have f1:Fw H (aAF f.b) wr (wr.setCell ⟨d,2,none⟩ (Qc Y)):=(Fw.refl _ _ _).write v y4 Oa V.2.1 Qj _;have f2:=f1.alloc (Qf #[Qd d] 192) Oa
 have f3:Fw H (aAF f.b) wr W3:=f2.grown grow Oa (fun k m=>by
  obtain⟨⟨c2,u⟩,hb⟩:=bEH h.ownA m;refine⟨hb,fun c t T e=>?_⟩;have B:=(Oo u);rw[q2 k B,q1 k (bEF u v Ob),u]at e;simp only[Option.some.injEq,Obj.cells.injEq]at e;rw[<-e.2.1]at T
  grind[aK])
 have P:Fw H (aAF f.b) wr (W3.setCell ⟨O,1,none⟩ (Qe g (Y+1) J)):=f3.set h.ge.2.1 (fun c t T e=>by
  rw[a4]at e;simp only[Option.some.injEq,Obj.cells.injEq]at e;rw[<-e.2.1]at T
  grind[aK]) _ _
 have y3:(W3.setCell ⟨O,1,none⟩ (Qe g (Y+1) J)).1[d]?=some (.cells (s.setIfInBounds 2 (Qc Y)) 196 (0,0)):=(by grind[Below.heap_setCell]);have a1:∀ t a5,Ws a5 t->IsT wr t->(∀ p∈ps t,p≠f.b)->IsT (W3.setCell ⟨O,1,none⟩ (Qe g (Y+1) J)) t:=fun t a5 Z hi j=>IsT.fw P aAF.e Z hi (fun p z ty W=>j p z W.2);have ue:=dZ (b:=d) (o:=q) E.left;have k2:f.b∈po f:=by grind[po,eO]
 have y7:IsT (W3.setCell ⟨O,1,none⟩ (Qe g (Y+1) J)) (.node d q {f with c:=(Y:Int)} x y):=by
  obtain⟨_,sx,sy,_,k6,k5⟩:=h8.parts;refine⟨a1 x _ k6 w.1.1 (fun p j e=>ue.own_l _ k2 Qg),a1 y _ k5 w.1.2.1 (fun p j e=>ue.own_r _ k2 Qg),aHQ h4 Oa (fun c t b3=>?_)⟩
  grind
 refine⟨⟨?_,?_,a3 _ _ _ h.first,a3 _ _ _ h.b,h.ne,h.ge,h.fr.t (P.mono fun t p j=>⟨j.1,k1 p (fT (by rw[j.2];exact z))⟩),?_,?_,?_,?_,?_,?_,?_⟩,?_⟩
 ·exact(Om b1).t (a2 N _ _ h.blk Ob a9)
 ·exact aM (o:=1) _ a4
 ·rw[C];exact a1 r _ k7 w.2.1 (fun p j e=>by subst e;exact E.apart _ z j)
 ·intro w2 A hi;rw[C]at A hi;refine h1 w2 ((P.mono fun t p j=>⟨j.1,fT (by rw[j.2];exact z)⟩).t (A.mono fun t p j=>⟨j.1,jE j.2⟩)) ?_
  have e1:gaT (.node b o a (.node d q f x y) r) Y R= .node b o a (.node d q {f with c:=(Y:Int)} x y) (gaT r (Y+1) R):=by
   show(if f.a=16 then _ else _)=_;rw[if_pos X];rfl
  rw[e1];refine⟨?_,hi,by unfold Own;rw[y8];trivial⟩;have k0:Sh (.node d q f x y) (.node d q {f with c:=(Y:Int)} x y):=⟨rfl,rfl,rfl,rfl,rfl,rfl,rfl,rfl,fun e=>Oa,fun _=>rfl,Sh.refl _,Sh.refl _⟩;exact IsT.fw A PA.e (k0.ws h8) y7 (fun p j ty W=>by rw[k0.ps]at j;exact E.apart p j W.2)
 ·refine⟨own.1,?_⟩;rcases own.2 with⟨A,_⟩|⟨g',a6,a7,y0,y5,hh,r'⟩
  ·cases A
  ·refine .r ⟨g',a6,a7,y0,y5,?_,r'⟩
   grind[Value.slice.injEq,Option.some.injEq,Addr.mk.injEq,Below.heap_setCell]
 ·refine cD h.ownF (fun k m=>?_);obtain⟨⟨c2,u⟩,_⟩:=bEH h.ownF m
  grind[Below.heap_setCell,bEF]
 ·rw[C,List.append_assoc,<-hA];show _=G++(if f.a=16 then _ else _);rw[if_pos X];rfl
 ·rw[C,<-k4];show _=K++(if f.a=17 then _ else _);simp[*]
 ·have:=h.cnt;omega
 ·rw[cell_of_row _ _ _ _ _ _ y3,Qq Oa];exact V.1
theorem GaW.stepF(h:GaW H O N I U it Q L i Y R F D M G K wr)(X:Ws 18 L)(y2:(ps L).Nodup)(hF:aUI H L){b o d q g J:Nat}{a f:Nd}{x y r:Tr}(hd:aL i L= .node b o a (.node d q f x y) r)(C:aL (i+1) L=r)(ht:f.a=17)(own:W3.ownsRow H 106 1 (Qe g (R+1) J) (R+1) (K++[Qd d]))(grow:((wr.setCell ⟨d,2,none⟩ (Qc R)).alloc (Qf #[Qd d] 106)).grownBy W3 M.ownBlock)(y6:M.ownBlock=some g\/g=wr.1.size+1):
 GaW H O N I U it Q L (i+1) Y (R+1) F D (Qe g (R+1) J) G (K++[Qd d]) (W3.setCell ⟨O,2,none⟩ (Qe g (R+1) J))/\(W3.setCell ⟨O,2,none⟩ (Qe g (R+1) J)).cell? ⟨d,0,none⟩=some (.string f.h):=by
 have h9:=eX Ot i _ X;have E:=lT i _ y2;have k1:=rU i L;have k3:=lO i L hF;have w:=h.rest;have h1:=h.wand;have hA:=h.hA;have k4:=h.hF;rw[hd]at h9 E k1 k3 w h1 hA k4;obtain⟨y8,h8,k7⟩:=aY Ot h9;have E:=dZ E;have y4:H<=d:=k3.1.2.2 (by unfold gY;omega);have h4:=w.1.2.2
 obtain⟨s,v,V⟩:∃ s,wr.1[d]?=some (.cells s 105 (0,0))/\Nam s 0 f:=by
  obtain⟨s,v,V,_⟩:=aI h4 (n:=17) ht;simp[*]
 have z:f.b∈ps (.node d q f x y):=(by grind[po,eO,aAU]);have hH:=Qm h.ge.1 (Nat.le_of_lt (Oo h.blk));have q1:∀ k,k≠d->(wr.setCell ⟨d,2,none⟩ (Qc R)).1[k]?=wr.1[k]?:=(by grind[Below.heap_setCell]);have s1:(wr.setCell ⟨d,2,none⟩ (Qc (R:Int))).1.size=wr.1.size:=Od
 have z1:(wr.setCell ⟨d,2,none⟩ (Qc (R:Int))).1[d]?=some (.cells (s.setIfInBounds 2 (Qc R)) 105 (0,0)):=aM _ v;have q2:∀ k,k < wr.1.size->((wr.setCell ⟨d,2,none⟩ (Qc R)).alloc (Qf #[Qd d] 106)).1[k]?=(wr.setCell ⟨d,2,none⟩ (Qc R)).1[k]?:=(by grind[Below.heap_alloc]);have s2:((wr.setCell ⟨d,2,none⟩ (Qc (R:Int))).alloc (Qf #[Qd d] 106)).1.size=wr.1.size+1:=Od
 have q3:∀ k,k < wr.1.size->M.ownBlock≠some k->W3.1[k]?=((wr.setCell ⟨d,2,none⟩ (Qc R)).alloc (Qf #[Qd d] 106)).1[k]?:=fun k m y1=>grow.block k Oa Qg
 have k9:∀ (k:Nat) (c:Array Value) (t:TypeId),wr.1[k]?=some (.cells c t (0,0))->t≠106->M.ownBlock≠some k:=by
  intro k c t m y1 e;obtain⟨⟨c2,u⟩,_⟩:=bEH h.ownF e
  grind
 have k8:∀ k n l,Mp wr k n l->M.ownBlock≠some k:=by
  intro k n l m e;obtain⟨⟨c2,u⟩,_⟩:=bEH h.ownF e;exact m.ne_cells u rfl
 have b3:g≠O:=by
  rcases y6 with e|e
  ·intro e2;rw[e2]at e;exact k9 O _ _ h.prog Ob e
  ·have:=(Oo h.prog);omega
 have a1:∀ (k:Nat) (c:Array Value) (t:TypeId),wr.1[k]?=some (.cells c t (0,0))->t≠106->k≠d->W3.1[k]?=some (.cells c t (0,0)):=by
  grind
 have a7:O≠d:=bEF h.prog v Ob;have a8:N≠d:=bEF h.blk v Ob;have a9:N≠O:=bEF h.blk h.prog Ob;have a3:=a1 O _ _ h.prog Ob a7
 have a2:∀ k n l,Mp wr k n l->Mp (W3.setCell ⟨O,2,none⟩ (Qe g (R+1) J)) k n l:=by
  intro k n l m;have B:=m.lt;refine m.same ((Om (m.ne_cells h.prog)).t ?_);rw[q3 k B (k8 k n l m),q2 k B,q1 k (m.ne_cells v)]
 have b1:W3.1[d]?=some (.cells (s.setIfInBounds 2 (Qc R)) 105 (0,0)):=by
  grind
 have f1:Fw H (aAF f.b) wr (wr.setCell ⟨d,2,none⟩ (Qc R)):=(Fw.refl _ _ _).write v y4 Oa V.2.1 Qj _;have f2:=f1.alloc (Qf #[Qd d] 106) Oa
 have f3:Fw H (aAF f.b) wr W3:=f2.grown grow Oa (fun k m=>by
  obtain⟨⟨c2,u⟩,hb⟩:=bEH h.ownF m;refine⟨hb,fun c t T e=>?_⟩;have B:=(Oo u);rw[q2 k B,q1 k (bEF u v Ob),u]at e;simp only[Option.some.injEq,Obj.cells.injEq]at e;rw[<-e.2.1]at T
  grind[aK])
 have P:Fw H (aAF f.b) wr (W3.setCell ⟨O,2,none⟩ (Qe g (R+1) J)):=f3.set h.ge.2.1 (fun c t T e=>by
  rw[a3]at e;simp only[Option.some.injEq,Obj.cells.injEq]at e;rw[<-e.2.1]at T
  grind[aK]) _ _
 have y3:(W3.setCell ⟨O,2,none⟩ (Qe g (R+1) J)).1[d]?=some (.cells (s.setIfInBounds 2 (Qc R)) 105 (0,0)):=(by grind[Below.heap_setCell]);have Z:∀ t a4,Ws a4 t->IsT wr t->(∀ p∈ps t,p≠f.b)->IsT (W3.setCell ⟨O,2,none⟩ (Qe g (R+1) J)) t:=fun t a4 X hi j=>IsT.fw P aAF.e X hi (fun p z ty W=>j p z W.2);have ue:=dZ (b:=d) (o:=q) E.left;have k2:f.b∈po f:=by grind[po,eO]
 have y7:IsT (W3.setCell ⟨O,2,none⟩ (Qe g (R+1) J)) (.node d q {f with c:=(R:Int)} x y):=by
  obtain⟨_,sx,sy,_,k6,k5⟩:=h8.parts;refine⟨Z x _ k6 w.1.1 (fun p j e=>ue.own_l _ k2 Qg),Z y _ k5 w.1.2.1 (fun p j e=>ue.own_r _ k2 Qg),aHQ h4 Oa (fun c t b2=>?_)⟩
  grind
 refine⟨⟨?_,?_,a2 _ _ _ h.first,a2 _ _ _ h.b,h.ne,h.ge,h.fr.t (P.mono fun t p j=>⟨j.1,k1 p (fT (by rw[j.2];exact z))⟩),?_,?_,?_,?_,?_,?_,?_⟩,?_⟩
 ·exact(Om a9).t (a1 N _ _ h.blk Ob a8)
 ·exact aM (o:=2) _ a3
 ·rw[C];exact Z r _ k7 w.2.1 (fun p j e=>by subst e;exact E.apart _ z j)
 ·intro w2 A hi;rw[C]at A hi;refine h1 w2 ((P.mono fun t p j=>⟨j.1,fT (by rw[j.2];exact z)⟩).t (A.mono fun t p j=>⟨j.1,jE j.2⟩)) ?_
  have e1:gaT (.node b o a (.node d q f x y) r) Y R= .node b o a (.node d q {f with c:=(R:Int)} x y) (gaT r Y (R+1)):=by
   show(if f.a=16 then _ else _)=_;rw[Oh];rfl
  rw[e1];refine⟨?_,hi,by unfold Own;rw[y8];trivial⟩;have k0:Sh (.node d q f x y) (.node d q {f with c:=(R:Int)} x y):=⟨rfl,rfl,rfl,rfl,rfl,rfl,rfl,rfl,fun e=>Oa,fun _=>rfl,Sh.refl _,Sh.refl _⟩;exact IsT.fw A PA.e (k0.ws h8) y7 (fun p j ty W=>by rw[k0.ps]at j;exact E.apart p j W.2)
 ·refine cD h.ownA (fun k m=>?_);obtain⟨⟨c2,u⟩,_⟩:=bEH h.ownA m
  grind[Below.heap_setCell,bEF]
 ·refine⟨own.1,?_⟩;rcases own.2 with⟨A,_⟩|⟨g',a5,a6,y0,y5,hh,r'⟩
  ·cases A
  ·refine .r ⟨g',a5,a6,y0,y5,?_,r'⟩
   grind[Value.slice.injEq,Option.some.injEq,Addr.mk.injEq,Below.heap_setCell]
 ·rw[C,<-hA];show _=G++(if f.a=16 then _ else _);simp[*]
 ·rw[C,List.append_assoc,<-k4];show _=K++(if f.a=17 then _ else _);rw[if_pos ht];rfl
 ·have:=h.cnt;omega
 ·rw[cell_of_row _ _ _ _ _ _ y3,Qq Oa];exact V.1
theorem GaW.fin(h:GaW H O N I U it Q L (aO L) Y R F D M G K wr):IsT wr (gaT L 0 0)/\G=nH 16 L/\K=nH 17 L:=by
 have a:=h.wand;have b:=h.hA;have c:=h.hF;rw[eS]at a b c;exact⟨a wr (Fw.refl _ _ _) trivial,by simpa[nH]using b,by simpa[nH]using c⟩
end
section
variable {H O N I U:Nat}
theorem infoPA:(prog.info? 192).map (fun i=>(i.zero,i.size,i.bytes))=some (some (.pointer none),1,8):=by kernel_rfl
theorem infoPF:(prog.info? 106).map (fun i=>(i.zero,i.size,i.bytes))=some (some (.pointer none),1,8):=by kernel_rfl
theorem aJY{w x:World}{t:Tr}(h:Ws 8 t){P:TypeId->Int->Prop}(hi:IsT x t)(J:Fw H P x w)(C:∀ t p,P t p->cU t)(X:∀ p,¬P 100 p){ao:Option Addr}{n y i:Nat}(s:bCH t= .slice ao n y){b o:Nat}{a:Nd}{e r:Tr}(d:aL i (bCF t)= .node b o a e r)(B:∃ b o a l r,e= .node b o a l r/\a.a≠19/\a.a≠7):
 ∃ g,ao=some ⟨g,0,none⟩/\w.cell? ⟨g,i,none⟩=some (bCH e):=by
 rcases h.lst (by omega)with rfl|⟨b0,o0,a0,l0,rfl,ht,_⟩
 ·cases i<;>cases d
 ·have z:bCH (.node b0 o0 a0 l0 .nil)= Qe b0 (aO l0) o0:=if_pos ht;rw[z]at s;simp only[Value.slice.injEq]at s;refine⟨b0,Qh,?_⟩;have q:=hi.2.2;have A:l0≠ .nil:=(aI q (n:=20) ht).1;have a1:po a0=[]:=by unfold po;rw[ht];rfl
  have f:Own w b0 a0 l0 .nil:=dH.fw J C q Qh (fun e=>⟨h.list e A,Qh⟩);obtain⟨_,j,Z,E⟩:=aI f (n:=20) ht;have m:=pZ i 0 l0 E;replace d:aL i l0= .node b o a e r:=d;rw[d,Nat.zero_add]at m;obtain⟨k,f,c,u,v,rfl,T,W⟩:=B;have V:(if c.a=19 then Nam j (i*3) c else if c.a=7 then j[i]?=some (cB (.node k f c u v))else j[i]?=some (bCH (.node k f c u v))):=m.1
  grind[cell_of_row]
theorem bRE(a:Addr)(w:World):(method 603 192 (.pointer (some a)) "Declared").run prog w= .ok (384,.pointer (some a)) w:=by kernel_rfl
theorem yS(a:Addr)(w:World):(method 603 106 (.pointer (some a)) "Declared").run prog w= .ok (382,.pointer (some a)) w:=by kernel_rfl
theorem PA.noName{L:Tr}(p:Int): ¬PA L 100 p:=fun h=>by rcases h.1 with h|h<;>exact Qj
theorem aGC{t:Tr}(P:Ws 8 t)(hF:aUI H t)(z5:(ps t).Nodup)(w:World)(hi:IsT w t)(h:GaW H O N I U (bCH t) w (bCF t) 0 0 0 [] (.slice none 0 0) (.slice none 0 0) [] [] w):
 Calls prog 72 #[Qd N] w fun e w'=>e= .returned (.tuple #[])/\∃ Y R D M,GaW H O N I U (bCH t) w (bCF t) (aO (bCF t)) Y R (gaF (bCF t) 0 []) D M (nH 16 (bCF t)) (nH 17 (bCF t)) w':=by
 obtain⟨iA,j4,j9,j8,j7⟩:=info_parts infoPA;obtain⟨iF,j3,j6,j5,k9⟩:=info_parts infoPF;obtain⟨ao,C,z3⟩:=P.W Ot;have b7:=fB Ot P;have z6:=bLA t;have j1:Hid _:=z6;have z4:=jU Ot P;have j0:Hid ((ps (bCF t)).Nodup):=by rw[Hid,<-z4];exact z5
 have y4:Hid (Ws 18 (bCF t)):=P.elems Ot;have HW:Hid (Ws 8 t):=P;have HF:Hid (aUI H (bCF t)):=jI hF;have HI:Hid (IsT w t):=hi;have c0:w.cell? ⟨N,0,none⟩=some (Qd O):=Og h.blk rfl
 have p0:w.cell? ⟨O,0,none⟩=some (bCH t):=Og h.prog rfl
 rw[z3]at p0 h;have G0:Hid _:=h;clear h P hF z5 hi z6 z4;go_enter func72,ntmps72
 go_wp2_with fail
 go_loopg [19] (aD t) (fun m b2 wr=>∃ (i Y R:Nat) (F:cM) (D M:Value) (f j:List Value),b2= Qc i/\i<=aD t/\aD t<=i+m/\GaW H O N I U (.slice ao (aD t) C) w (bCF t) i Y R F D M f j wr/\gaF (aL i (bCF t)) i F=gaF (bCF t) 0 []/\F.length<=i)
 case atStart=>exact⟨0,0,0,[],_,_,[],[],rfl,Qn _,Oa,G0.o,rfl,Ql _⟩
 case round=>
  clear c0 p0;obtain⟨i,Y,R,F,D,M,f,j,rfl,b6,hm,G,k5,z8⟩:=hrel;have V:Hid _:=G;have E:Hid _:=k5;clear k5
  by_cases j2:i < aD t
  ·have z0:(i:Int) < (aD t:Int):=Oa
   obtain⟨b1,o1,a1,e1,r1,p,T⟩:=dK i (bCF t) (by rw[<-j1.o];exact j2);have y6:=eX Ot i _ y4.o;rw[p]at y6;obtain⟨z9,y5,_⟩:=aY Ot y6;obtain⟨a,o2,c,a6,a7,rfl,y9⟩:=iB y5;obtain⟨gg,rfl,h3⟩:=aJY HW.o HI.o G.fr PA.e PA.noName z3 p ⟨a,o2,c,a6,a7,rfl,Oa,Oa⟩;have b:bCH (.node a o2 c a6 a7)= .iface (bZ c.a) (Qd a):=Oh;rw[b]at h3;have h1:=G.rest;rw[p]at h1;have y7:c.h.size<=maxLen:=by have:=y5.parts.1.h;unfold maxLen;omega
   obtain⟨a2,a4,rfl,b3⟩:=eQ G.ownA;obtain⟨a3,a5,rfl,b4⟩:=eQ G.ownF;have b8:Y<=10000:=by have:=G.cnt;omega
   have b9:R<=10000:=by have:=G.cnt;omega
   have b5:=G.ge;have hsz:=(Oo G.blk);have k6:=(Oo G.prog);rcases y9 with r|r
   ·have t1:=fun q=>bD1 q wr;have t2:=fun q=>bP0 q wr;have t3:=fun q=>pS q wr;obtain⟨cs,k,h6,_⟩:=aI h1.1.2.2 (n:=16) r;have m2:wr.cell? ⟨a,2,none⟩=some (Qc c.c):=Og k h6.2.2
    have z2:wr.frozen? ⟨a,2,none⟩=false:=by simp[World.frozen?,k]
    have p1:wr.cell? ⟨O,1,none⟩=some (.slice a2 Y a4):=Og G.prog rfl
    have pz:wr.frozen? ⟨O,1,none⟩=false:=by simp[World.frozen?,G.prog]
    have pne:O≠a:=bEF G.prog k Ob
    have ag:some O≠(Value.slice a2 Y a4).ownBlock:=fun e=>by
     obtain⟨⟨c2,y⟩,_⟩:=bEH G.ownA e.symm;exact bEF G.prog y Ob rfl
    have bML:(wr.setCell ⟨a,2,none⟩ (Qc (Y:Int))).ownsRow H 192 1 (.slice a2 Y a4) Y f:=cD G.ownA (fun a8 hk=>by
     obtain⟨⟨c2,y⟩,_⟩:=bEH G.ownA hk;exact Om (bEF y k Ob))
    have B:(wr.setCell ⟨a,2,none⟩ (Qc (Y:Int))).1.size=wr.1.size:=by simp[World.setCell]
    have v:((wr.setCell ⟨a,2,none⟩ (Qc (Y:Int))).alloc (Qf #[Qd a] 192)).1[O]?=_:=(On (by rw[B];exact k6)).t ((Om pne).t G.prog);have W:O < ((wr.setCell ⟨a,2,none⟩ (Qc (Y:Int))).alloc (Qf #[Qd a] 192)).1.size:=by simp[World.setCell];omega
    have X:((wr.setCell ⟨a,2,none⟩ (Qc (Y:Int))).alloc (Qf #[Qd a] 192)).cell? ⟨O,1,none⟩=some (.slice a2 Y a4):=Og v rfl
    have Z:((wr.setCell ⟨a,2,none⟩ (Qc (Y:Int))).alloc (Qf #[Qd a] 192)).frozen? ⟨O,1,none⟩=false:=by simp[World.frozen?,v]
    have y3:Hid _:=X;have y0:Hid _:=Z;have z:Hid _:=W;have A:Hid _:=ag;have h4:Hid _:=fun g J s=>V.o.stepA (g:=g) (J:=J) (W3:=s) y4.o j0.o HF.o p T r
    have o:Hid (∀ u:cM,u=(if(bCK c.h F).isSome then F else put c.h i F)->gaF (aL (i+1) (bCF t)) (i+1) u=gaF (bCF t) 0 []):=by
     intro u k9;rw[<-E.o,p,T,k9];rfl
    rw[show bZ c.a=192 by rw[r];rfl]at h3;clear h1 G y6 y5 b k h6 v W X Z ag r z9 T p E V;go_upto_region 13 with(at_builtin;refine wpList_append_lies _ rfl _ _ 108 rfl H 192 iA _ 1 8 underlying108 j4 j9 j8 j7 rfl Oa (.slice a2 Y a4) Y f rfl (bML.alloc _) ⟨wr.1.size,0,none⟩ 1 1 [Qd a] rfl rfl (World.news_of_block (cs:=#[Qd a]) (t:=192) (fr:=(0,0)) (by rw[<-B];exact Qk _ _)) (by simp[Value.oneCell']) Oa (by unfold maxLen;omega) Oa (by simp[World.setCell];omega) (wr.1.size+1) (by simp[World.setCell]) ?_;intro g J s h2 l k8 z1;have y1:=(l.cell_far ⟨O,1,none⟩ z.o A.o).t y3.o;have y2:=(l.frozen_far ⟨O,1,none⟩ z.o A.o).t y0.o)
    obtain⟨d,a9⟩:=h4.o g J s h2 l k8;clear h4 h2 l k8 y1 y2 y3 y0 z A bML B m2 z2 p1 pz pne t1 t2 t3 h3;generalize s.setCell ⟨O,1,none⟩ (Qe g (Y+1) J)=x at*;have me:=bRE ⟨a,0,none⟩ x;have r1:x.cell? ⟨N,1,none⟩=some (.map (some I)):=Og d.blk rfl
    have k7:=d.first.look_ok c.h y7;obtain⟨m,rfl⟩:=Oj gk;cases b:(bCK c.h F).isSome
    ·rw[b]at k7;have y8:(Lit.int .i64 (i:Int)).wf=true:=by simp[Lit.wf,IntKind.min,IntKind.max,IntKind.bits,IntKind.signed];omega
     obtain⟨W5,k4,h7,k3⟩:=d.first.put (by unfold maxLen;omega) c.h y7 i y8
     have fin:∃ (K Y R:Nat) (F:cM) (D M:Value) (f j:List Value),Qc ((i:Int)+1)= Qc K/\K<=aD t/\aD t<=K+m/\GaW H O N I U (Qe gg (aD t) C) w (bCF t) K Y R F D M f j W5/\gaF (aL K (bCF t)) K F=gaF (bCF t) 0 []/\F.length<=K:=
      ⟨i+1,_,_,_,_,_,_,_,Od,Oa,Oa,d.put y4.o h7 k3,o.o _ (by rw[b];rfl),by rw[nO,b];simpa using z8⟩
     clear h7 k3 o d b;go_wp2;go_roundg m
     case rel=>exact fin
     case measure=>omega
    ·rw[b]at k7
     have fin:∃ (K Y R:Nat) (F:cM) (D M:Value) (f j:List Value),Qc ((i:Int)+1)= Qc K/\K<=aD t/\aD t<=K+m/\GaW H O N I U (Qe gg (aD t) C) w (bCF t) K Y R F D M f j x/\gaF (aL K (bCF t)) K F=gaF (bCF t) 0 []/\F.length<=K:=
      ⟨i+1,_,_,_,_,_,_,_,Od,Oa,Oa,d,o.o _ (by rw[b];rfl),Oa⟩
     clear o d b;go_wp2;go_roundg m
     case rel=>exact fin
     case measure=>omega
   ·have t1:=fun q=>bD1 q wr;have t2:=fun q=>bP0 q wr;have t3:=fun q=>pS q wr;obtain⟨cs,k,h6,_⟩:=aI h1.1.2.2 (n:=17) r;have m2:wr.cell? ⟨a,2,none⟩=some (Qc c.c):=Og k h6.2.2
    have z2:wr.frozen? ⟨a,2,none⟩=false:=by simp[World.frozen?,k]
    have p1:wr.cell? ⟨O,2,none⟩=some (.slice a3 R a5):=Og G.prog rfl
    have pz:wr.frozen? ⟨O,2,none⟩=false:=by simp[World.frozen?,G.prog]
    have pne:O≠a:=bEF G.prog k Ob
    have ag:some O≠(Value.slice a3 R a5).ownBlock:=fun e=>by
     obtain⟨⟨c2,y⟩,_⟩:=bEH G.ownF e.symm;exact bEF G.prog y Ob rfl
    have bML:(wr.setCell ⟨a,2,none⟩ (Qc (R:Int))).ownsRow H 106 1 (.slice a3 R a5) R j:=cD G.ownF (fun a8 hk=>by
     obtain⟨⟨c2,y⟩,_⟩:=bEH G.ownF hk;exact Om (bEF y k Ob))
    have B:(wr.setCell ⟨a,2,none⟩ (Qc (R:Int))).1.size=wr.1.size:=by simp[World.setCell]
    have v:((wr.setCell ⟨a,2,none⟩ (Qc (R:Int))).alloc (Qf #[Qd a] 106)).1[O]?=_:=(On (by rw[B];exact k6)).t ((Om pne).t G.prog);have W:O < ((wr.setCell ⟨a,2,none⟩ (Qc (R:Int))).alloc (Qf #[Qd a] 106)).1.size:=by simp[World.setCell];omega
    have X:((wr.setCell ⟨a,2,none⟩ (Qc (R:Int))).alloc (Qf #[Qd a] 106)).cell? ⟨O,2,none⟩=some (.slice a3 R a5):=Og v rfl
    have Z:((wr.setCell ⟨a,2,none⟩ (Qc (R:Int))).alloc (Qf #[Qd a] 106)).frozen? ⟨O,2,none⟩=false:=by simp[World.frozen?,v]
    have y3:Hid _:=X;have y0:Hid _:=Z;have z:Hid _:=W;have A:Hid _:=ag;have h4:Hid _:=fun g J s=>V.o.stepF (g:=g) (J:=J) (W3:=s) y4.o j0.o HF.o p T r
    have o:Hid (∀ u:cM,u=(if(bCK c.h F).isSome then F else put c.h i F)->gaF (aL (i+1) (bCF t)) (i+1) u=gaF (bCF t) 0 []):=by
     intro u k9;rw[<-E.o,p,T,k9];rfl
    rw[show bZ c.a=106 by rw[r];rfl]at h3;clear h1 G y6 y5 b k h6 v W X Z ag r z9 T p E V;go_upto_region 13 with(at_builtin;refine wpList_append_lies _ rfl _ _ 109 rfl H 106 iF _ 1 8 underlying109 j3 j6 j5 k9 rfl Oa (.slice a3 R a5) R j rfl (bML.alloc _) ⟨wr.1.size,0,none⟩ 1 1 [Qd a] rfl rfl (World.news_of_block (cs:=#[Qd a]) (t:=106) (fr:=(0,0)) (by rw[<-B];exact Qk _ _)) (by simp[Value.oneCell']) Oa (by unfold maxLen;omega) Oa (by simp[World.setCell];omega) (wr.1.size+1) (by simp[World.setCell]) ?_;intro g J s h2 l k8 z1;have y1:=(l.cell_far ⟨O,2,none⟩ z.o A.o).t y3.o;have y2:=(l.frozen_far ⟨O,2,none⟩ z.o A.o).t y0.o)
    obtain⟨d,a9⟩:=h4.o g J s h2 l k8;clear h4 h2 l k8 y1 y2 y3 y0 z A bML B m2 z2 p1 pz pne t1 t2 t3 h3;generalize s.setCell ⟨O,2,none⟩ (Qe g (R+1) J)=x at*;have me:=yS ⟨a,0,none⟩ x;have r1:x.cell? ⟨N,1,none⟩=some (.map (some I)):=Og d.blk rfl
    have k7:=d.first.look_ok c.h y7;obtain⟨m,rfl⟩:=Oj gk;cases b:(bCK c.h F).isSome
    ·rw[b]at k7;have y8:(Lit.int .i64 (i:Int)).wf=true:=by simp[Lit.wf,IntKind.min,IntKind.max,IntKind.bits,IntKind.signed];omega
     obtain⟨W5,k4,h7,k3⟩:=d.first.put (by unfold maxLen;omega) c.h y7 i y8
     have fin:∃ (K Y R:Nat) (F:cM) (D M:Value) (f j:List Value),Qc ((i:Int)+1)= Qc K/\K<=aD t/\aD t<=K+m/\GaW H O N I U (Qe gg (aD t) C) w (bCF t) K Y R F D M f j W5/\gaF (aL K (bCF t)) K F=gaF (bCF t) 0 []/\F.length<=K:=
      ⟨i+1,_,_,_,_,_,_,_,Od,Oa,Oa,d.put y4.o h7 k3,o.o _ (by rw[b];rfl),by rw[nO,b];simpa using z8⟩
     clear h7 k3 o d b;go_wp2;go_roundg m
     case rel=>exact fin
     case measure=>omega
    ·rw[b]at k7
     have fin:∃ (K Y R:Nat) (F:cM) (D M:Value) (f j:List Value),Qc ((i:Int)+1)= Qc K/\K<=aD t/\aD t<=K+m/\GaW H O N I U (Qe gg (aD t) C) w (bCF t) K Y R F D M f j x/\gaF (aL K (bCF t)) K F=gaF (bCF t) 0 []/\F.length<=K:=
      ⟨i+1,_,_,_,_,_,_,_,Od,Oa,Oa,d,o.o _ (by rw[b];rfl),Oa⟩
     clear o d b;go_wp2;go_roundg m
     case rel=>exact fin
     case measure=>omega
  ·have z0: ¬(i:Int) < (aD t:Int):=Oa
   have z7:i=aO (bCF t):=by rw[<-j1.o];omega
   have fin:∃ Y R D M,GaW H O N I U (.slice ao (aD t) C) w (bCF t) (aO (bCF t)) Y R (gaF (bCF t) 0 []) D M (nH 16 (bCF t)) (nH 17 (bCF t)) wr:=by
    subst z7;obtain⟨_,e1,e2⟩:=G.fin;have e3:=E.o;rw[eS]at e3;have e4:F=gaF (bCF t) 0 []:=e3;rw[e1,e2,e4]at G;exact⟨Y,R,D,M,G⟩
   clear z7 G V E;go_wp2;go_end0
   exact⟨rfl,fin⟩
end
section
variable {H O N I U:Nat} {Z:Array Value} {F:cM} {its:List Tr}
def Rs.six(s:Rs)(a:Nd):Rs:=if 6<=a.c then s.fail 5 a.b else s
def mH(a:Nd):Bool:=decide (a.g < 1)||decide (64 < a.g)
def Rs.arr(s:Rs)(a:Nd):Rs:=if mH a then(s.six a).fail 5 a.e else s.six a
theorem xN{k:Nat}{a:Nd}{l r:Tr}(w:World)(h:Own w k a l r)(d:a.a=16):w.cell? ⟨k,2,none⟩=some (Qc a.c)/\w.cell? ⟨k,1,none⟩=some (Qc a.b)/\w.cell? ⟨k,0,none⟩=some (.string a.h)/\w.cell? ⟨k,3,none⟩=some (Qc a.g)/\w.cell? ⟨k,4,none⟩=some (Qc a.e):=by
 obtain⟨e,b,c,f,g⟩:=aI h (n:=16) d;exact⟨Og b c.2.2,Og b c.2.1,Og b c.1,by grind[cell_of_row],by grind[cell_of_row]⟩
theorem bQ5{b:Nat}{a:Nd}{l r:Tr}(t:a.a=16)(c:mH a=true\/mH a=false)(s:Rs)(w:World)(h:RsW H O N I U Z F s w)(q:Own w b a l r):
 Calls prog 127 #[Qd N,Qd b] w fun e J=>e= .returned (.tuple #[])/\RsW H O N I U Z F (s.arr a) J/\Fr H F0 w J:=by
 obtain⟨T,P,_,u,v⟩:=xN w q t
 by_cases A:6<=a.c
 ·have o:Hid (s.six a=s.fail 5 a.b):=if_pos A;have x:Hid (Own w b a l r):=q;clear q u v;rcases c with c|c
  ·have f:Hid (s.arr a=(s.fail 5 a.b).fail 5 a.e):=by unfold Hid Rs.arr;rw[c,o.o];rfl
   have d:a.g < 1\/64 < a.g:=by simpa[mH]using c
   rcases d with d|d
   ·go_enter func127,ntmps127
    go_wp2_with fail
    refine(bCJ 5 a.b w h).mono ?_;rintro e j ⟨rfl,n,g⟩;obtain⟨_,_,_,u,v⟩:=xN j (cX x.o g F0.body (fun C B E p=>p) Oa) t;go_wp2_with fail
    refine(bCJ 5 a.e j n).mono ?_;rintro e y ⟨rfl,k,m⟩;go_wp2;go_end0
    exact⟨rfl,by rw[f.o];exact k,g.t m⟩
   ·have z: ¬a.g < 1:=Oa
    go_enter func127,ntmps127
    go_wp2_with fail
    refine(bCJ 5 a.b w h).mono ?_;rintro e j ⟨rfl,n,g⟩;obtain⟨_,_,_,u,v⟩:=xN j (cX x.o g F0.body (fun C B E p=>p) Oa) t;go_wp2_with fail
    refine(bCJ 5 a.e j n).mono ?_;rintro e y ⟨rfl,k,m⟩;go_wp2;go_end0
    exact⟨rfl,by rw[f.o];exact k,g.t m⟩
  ·have f:Hid (s.arr a=s.fail 5 a.b):=by unfold Hid Rs.arr;rw[c,o.o];rfl
   obtain⟨d,z⟩: ¬a.g < 1/\¬64 < a.g:=by simp[mH]at c;omega
   go_enter func127,ntmps127
   go_wp2_with fail
   refine(bCJ 5 a.b w h).mono ?_;rintro e j ⟨rfl,n,g⟩;obtain⟨_,_,_,u,v⟩:=xN j (cX x.o g F0.body (fun C B E p=>p) Oa) t;go_wp2;go_end0
   exact⟨rfl,by rw[f.o];exact n,g⟩
 ·have o:Hid (s.six a=s):=if_neg A;clear q;rcases c with c|c
  ·have f:Hid (s.arr a=s.fail 5 a.e):=by unfold Hid Rs.arr;rw[c,o.o];rfl
   have d:a.g < 1\/64 < a.g:=by simpa[mH]using c
   rcases d with d|d
   ·go_enter func127,ntmps127
    go_wp2_with fail
    refine(bCJ 5 a.e w h).mono ?_;rintro e y ⟨rfl,k,m⟩;go_wp2;go_end0
    exact⟨rfl,by rw[f.o];exact k,m⟩
   ·have z: ¬a.g < 1:=Oa
    go_enter func127,ntmps127
    go_wp2_with fail
    refine(bCJ 5 a.e w h).mono ?_;rintro e y ⟨rfl,k,m⟩;go_wp2;go_end0
    exact⟨rfl,by rw[f.o];exact k,m⟩
  ·have f:Hid (s.arr a=s):=by unfold Hid Rs.arr;rw[c,o.o];rfl
   obtain⟨d,z⟩: ¬a.g < 1/\¬64 < a.g:=by simp[mH]at c;omega
   go_enter func127,ntmps127
   go_wp2;go_end0
   exact⟨rfl,by rw[f.o];exact h,Fr.refl _ _ _⟩
def Rs.R(s:Rs)(F:cM)(a:Nd)(i:Nat):Rs:=if(bCK a.h F).getD 0=(i:Int)then s else s.fail 4 a.b
def itR(F:cM)(its:List Tr)(t:Tr)(i:Nat)(s:Rs):Rs:=match t with
 | .nil=>s
 | .node b o a l r=>if a.a=16 then(s.R F a i).arr a else fnR F its (.node b o a l r) (s.R F a i)
def itT(F:cM)(its:List Tr)(t:Tr)(i:Nat)(s:Rs):Tr:=match t with
 | .nil=> .nil
 | .node b o a l r=>if a.a=16 then .node b o a l r else fnT F its (.node b o a l r) (s.R F a i)
theorem oO{b o:Nat}{a:Nd}{l r:Tr}(h:Ws 7 (.node b o a l r))(f:a.a=17):Ws 6 l/\∃ x y z p q,r= .node x y z p q/\z.a=18/\Ws 5 p/\Ws 4 q:=by
 obtain⟨_,n,s,c,d,e⟩:=h.parts;rw[f]at c;cases c;refine⟨d,?_⟩;cases r with
 |nil=>grind[Ws,bK]
 |node x y z p q=>
  obtain⟨_,sp,m,k,g,j⟩:=e.parts
  grind[sig]
theorem aFM(u:TypeId)(v:Value)(w:World):(Instr.typeAssert (.iface u v) 151 192 true).run prog w= .ok (.tuple #[if u=192 then v else .pointer none,.bool (decide (u=192))]) w:=eY _ u v w underlying192 Od
theorem aFK(u:TypeId)(v:Value)(w:World):(Instr.typeAssert (.iface u v) 151 106 true).run prog w= .ok (.tuple #[if u=106 then v else .pointer none,.bool (decide (u=106))]) w:=eY _ u v w underlying106 Od
theorem aBD(b:Nat)(w:World):Calls prog 384 #[Qd b] w fun e a=>e= .returned (Qd b)/\w=a:=by
 go_enter func384,ntmps384
 go_wp2;go_ret;trivial
theorem aBC(b:Nat)(w:World):Calls prog 382 #[Qd b] w fun e a=>e= .returned (Qd b)/\w=a:=by
 go_enter func382,ntmps382
 go_wp2;go_ret;trivial
theorem aG5{b o:Nat}{a:Nd}{l r:Tr}(h5:aID its)(v:Ws 7 (.node b o a l r))(hF:aUI H (.node b o a l r))(h8:(ps (.node b o a l r)).Nodup)(X:20000+eE (.node b o a l r)<=1000000)(i:Nat)(_:i<=100000)(s:Rs)(w:World)(h:NsW H O N I U Z F its s w)(hi:IsT w (.node b o a l r)):
 Calls prog 73 #[Qd N,Qc i,bCH (.node b o a l r)] w (aBL H O N I U Z F its (.node b o a l r) (itT F its (.node b o a l r) i s) (itR F its (.node b o a l r) i s) w):=by
 obtain⟨_,_,_,_,_,e7,h7⟩:=iB v;simp only[BT.node.injEq]at e7;obtain⟨rfl,rfl,rfl,rfl,rfl⟩:=e7;have u:a.h.size<=maxLen:=by have:=v.parts.1.h;unfold maxLen;omega
 have hv:bCH (.node b o a l r)= .iface (bZ a.a) (Qd b):=Oh;rw[hv];clear hv;have C:=hi.2.2;have c1:w.cell? ⟨N,1,none⟩=some (.map (some I)):=h.rs.cell 1
 obtain⟨n0,n1⟩:w.cell? ⟨b,0,none⟩=some (.string a.h)/\w.cell? ⟨b,1,none⟩=some (Qc a.b):=by
  rcases h7 with c|c
  ·obtain⟨cs,P,u,_⟩:=aI C (n:=16) c;exact⟨Og P u.1,Og P u.2.1⟩
  ·obtain⟨cs,P,u,_⟩:=aI C (n:=17) c;exact⟨Og P u.1,Og P u.2.1⟩
 have a5:∀ n,(Instr.lookup 147 (.map (some I)) (.string a.h) false).run prog (w.drewN n)= .ok (Qc ((bCK a.h F).getD 0)) (w.drewN n):=fun n=>(h.rs.drewN n).first.look a.h u;have t1:=fun a1 a2 w=>aFM a1 a2 w;have t2:=fun a1 a2 w=>aFK a1 a2 w;have m1:=fun w=>bRE ⟨b,0,none⟩ w;have m2:=fun w=>yS ⟨b,0,none⟩ w;rcases h7 with c|c
 ·have E:itR F its (.node b o a l r) i s=(s.R F a i).arr a:=if_pos c;have J:itT F its (.node b o a l r) i s= .node b o a l r:=if_pos c;rw[E,J,show bZ a.a=192 by rw[c];rfl]
  have T:Hid (∀ f k,Fr H F0 w f->Fr H F0 f k->RsW H O N I U Z F ((s.R F a i).arr a) k->aBL H O N I U Z F its (.node b o a l r) (.node b o a l r) ((s.R F a i).arr a) w (.returned (.tuple #[])) k):=by
   intro f k d q m;have x:=d.t q;exact⟨rfl,h.fr m x F0.body,IsT.fr x (fun t p V=>absurd V id) v hi (fun _ _ _ h=>h),x.mono F0.to⟩
  have HO:Hid (Own w b a l r):=C;have W:Hid (a.a=16):=c;have hb:mH a=true\/mH a=false:=by cases mH a<;>simp
  clear E J C hi v hF h8 X h5
  by_cases g:(bCK a.h F).getD 0=(i:Int)
  ·have j:s.R F a i=s:=if_pos g;rw[j]at T ⊢;have h9:((bCK a.h F).getD 0 !=(i:Int))=false:=by simpa using g
   have z:=h.rs;clear j g c h;go_enter func73,ntmps73
   go_wp2_with fail
   refine(aBD b w).mono ?_;rintro e w' ⟨rfl,rfl⟩;go_wp2_with fail
   go_quiet (fail)
   go_wp2_with fail
   refine(bQ5 W.o hb s _ (z.drewN nq) HO.o).mono ?_;rintro e k ⟨rfl,m,q⟩;go_wp2;go_end0
   exact T.o _ k ((Fr.refl H F0 w).drewN nq) q m
  ·have j:s.R F a i=s.fail 4 a.b:=if_neg g;rw[j]at T ⊢;have h9:((bCK a.h F).getD 0 !=(i:Int))=true:=by simpa using g
   have z:=h.rs;clear j g c h;go_enter func73,ntmps73
   go_wp2_with fail
   refine(aBD b w).mono ?_;rintro e w' ⟨rfl,rfl⟩;go_wp2_with fail
   go_quiet (fail)
   go_wp2_with fail
   refine(bCJ 4 a.b _ (z.drewN nq)).mono ?_;rintro e f ⟨rfl,h2,d⟩;have o2:Own f b a l r:=cX (w:=w.drewN nq) HO.o d F0.body (fun p V ty hq=>hq) (Oi W.o);go_wp2_with fail
   refine(bQ5 W.o hb (s.fail 4 a.b) f h2 o2).mono ?_;rintro e k ⟨rfl,m,q⟩;go_wp2;go_end0
   exact T.o f k (((Fr.refl H F0 w).drewN nq).t d) q m
 ·obtain⟨k2,x,A,B,p,y,rfl,hz,k1,k0⟩:=oO v c;have E:itR F its (.node b o a l (.node x A B p y)) i s=fnR F its (.node b o a l (.node x A B p y)) (s.R F a i):=Oh;have J:itT F its (.node b o a l (.node x A B p y)) i s=fnT F its (.node b o a l (.node x A B p y)) (s.R F a i):=Oh;rw[E,J,show bZ a.a=106 by rw[c];rfl]
  have k3:20000+eE p+eE y<=1000000:=by
   rw[eD,eD]at X;omega
  have FN:Hid (∀ s w,NsW H O N I U Z F its s w->IsT w (.node b o a l (.node x A B p y))->_):=zM h5 c hz k2 k1 k0 hF h8 k3;have a3:Hid (∀ f,Fr H F0 w f->IsT f (.node b o a l (.node x A B p y))):=fun f d=>IsT.fr d (fun t p V=>absurd V id) v hi (fun _ _ _ h=>h);have HN:Hid (NsW H O N I U Z F its s w):=h;have z:=h.rs;clear E J C hi v hF h8 X h5 h k2 k1 k0 k3 c
  by_cases g:(bCK a.h F).getD 0=(i:Int)
  ·have j:s.R F a i=s:=if_pos g;rw[j];have h9:((bCK a.h F).getD 0 !=(i:Int))=false:=by simpa using g
   clear j g;go_enter func73,ntmps73
   go_wp2_with fail
   refine(aBC b w).mono ?_;rintro e w' ⟨rfl,rfl⟩;go_wp2_with fail
   go_quiet (fail)
   have d:=(Fr.refl H F0 w).drewN nq;have h4:=FN.o s (w.drewN nq) (HN.o.fr (z.drewN nq) d F0.body) (a3.o _ d);go_wp2_with fail
   refine h4.mono ?_;rintro e k ⟨rfl,m,i3,q⟩;go_wp2;go_end0
   exact⟨rfl,m,i3,(d.mono F0.to).t q⟩
  ·have j:s.R F a i=s.fail 4 a.b:=if_neg g;rw[j];have h9:((bCK a.h F).getD 0 !=(i:Int))=true:=by simpa using g
   clear j g;go_enter func73,ntmps73
   go_wp2_with fail
   refine(aBC b w).mono ?_;rintro e w' ⟨rfl,rfl⟩;go_wp2_with fail
   go_quiet (fail)
   go_wp2_with fail
   refine(bCJ 4 a.b _ (z.drewN nq)).mono ?_;rintro e f ⟨rfl,h2,a4⟩;have d:=((Fr.refl H F0 w).drewN nq).t a4;have h4:=FN.o (s.fail 4 a.b) f (HN.o.fr h2 d F0.body) (a3.o _ d);go_wp2_with fail
   refine h4.mono ?_;rintro e k ⟨rfl,m,i3,q⟩;go_wp2;go_end0
   exact⟨rfl,m,i3,(d.mono F0.to).t q⟩
end
section
variable {H O N I U:Nat} {Z:Array Value} {F:cM} {its:List Tr}
def toL:Tr->List Tr
 | .nil=>[]
 | .node _ _ _ e r=>e::toL r
def aAC(F:cM)(its:List Tr):Tr->Nat->Rs->Rs
 | .nil,_,s=>s
 | .node _ _ _ e r,i,s=>aAC F its r (i+1) (itR F its e i s)
def hY(F:cM)(its:List Tr):Tr->Nat->Rs->Tr
 | .nil,_,_=> .nil
 | .node b o a e r,i,s=> .node b o a (itT F its e i s) (hY F its r (i+1) (itR F its e i s))
def rF:ByteArray:=ByteArray.mk #[109,97,105,110]
def rs0:Rs:=⟨[],0,0⟩
def fC(t:Tr):List Tr:=toL (gaT (bCF t) 0 0)
def dB(t:Tr):cM:=gaF (bCF t) 0 []
def aFV(t:Tr):Rs:=aAC (dB t) (fC t) (gaT (bCF t) 0 0) 0 rs0
def fO(t:Tr)(n:Int):Rs:=if(eK (dB t) (fC t) rF).isSome then aFV t else(aFV t).fail 4 n
def dY(t:Tr):Tr:=iS t (hY (dB t) (fC t) (gaT (bCF t) 0 0) 0 rs0)
def qV(t:Tr):Int:=lH ((eK (dB t) (fC t) rF).getD .nil)
theorem aH8(t:Tr):(toL t).length=aO t:=by
 induction t with
 |nil=>rfl
 |node b o a e r _ ih=>grind[toL,aO]
theorem aBO:∀ (t:Tr) (i:Nat) (e:Tr),(toL t)[i]?=some e->∃ b o a r,aL i t= .node b o a e r:=by
 intro t
 induction t with
 |nil=>grind[toL]
 |node b o a e0 r _ ih=>
  intro i e h;cases i with
  |zero=>simp[toL]at h;subst h;exact⟨b,o,a,r,rfl⟩
  |succ i=>exact ih i e (by simpa[toL]using h)
theorem aH7:∀ (t e:Tr),e∈toL t->∃ i:Nat,(toL t)[i]?=some e:=fun t e h=>by
 obtain⟨i,hi,a⟩:=List.getElem_of_mem h;exact⟨i,Qh⟩
theorem aP5{s:Nat}{e:Tr}(h:Ws s e)(n:Int):Ws s (iX e n):=by
 cases e with
 |nil=>exact h
 |node b o a l r=>
  obtain⟨d,x,y,c,f,g⟩:=h.parts;exact Ws.of20 (x:=x) (y:=y) c (d.sh rfl rfl rfl (fun _=>rfl)) (fun e=>h.len e) f g
theorem aP6:∀ (l:Tr) (s:Rs),Ws 16 l->Ws 16 (lE l s):=by
 intro l
 induction l with
 |nil=>intro s h;exact h
 |node b o a e r _ ih=>
  intro s h;obtain⟨d,_⟩:=h.parts;obtain⟨f,c,g⟩:=aY Ou h;exact Ws.of20 (x:=22) (y:=16) (by rw[f];rfl) d Oa (aP5 c _) Qh
theorem uB{s:Nat}(c:s=3\/s=4\/s=5\/s=6\/s=8){t L:Tr}(h:Ws s t)(g:Ws (10+s) L)(d:aO L=aO (bCF t)):Ws s (iS t L):=by
 rcases h.lst c with rfl|⟨b,o,a,l,rfl,j,_⟩
 ·exact h
 ·obtain⟨f,x,y,k,m,n⟩:=h.parts;refine Ws.of20 (x:=10+s) (y:=99) ?_ f (fun e=>?_) g Ws.X
  ·rw[j];rcases c with rfl|rfl|rfl|rfl|rfl<;>rfl
  ·have:=h.len e;rw[d];exact this
theorem yO{s:Nat}(d:s=3\/s=4\/s=5\/s=6\/s=8){t L:Tr}(h:Ws s t)(c:ps L=ps (bCF t)):ps (iS t L)=ps t:=by
 rcases h.lst d with rfl|⟨b,o,a,l,rfl,f,_⟩
 ·rfl
 ·have e:ps L=ps l:=c;show ps (.node b o a L .nil)=ps (.node b o a l .nil);simp only[ps,e]
theorem uS{e:Tr}(i:Nat)(s:Rs)(h:Ws 7 e):Ws 7 (itT F its e i s)/\ps (itT F its e i s)=ps e/\bCH (itT F its e i s)=bCH e/\∃ b o a l r f C E,e= .node b o a l r/\itT F its e i s= .node b o f C E/\f.a=a.a/\(a.a=16\/a.a=17):=by
 obtain⟨b,o,a,l,r,rfl,c⟩:=iB h;rcases c with c|c
 ·grind[itT]
 ·obtain⟨j,x,y,z,p,q,rfl,B,d,t⟩:=oO h c;have m:itT F its (.node b o a l (.node x y z p q)) i s=fnT F its (.node b o a l (.node x y z p q)) (s.R F a i):=Oh;rw[m];generalize s.R F a i=s;have V:=j.elems Oa;have A:=d.elems Oa;obtain⟨u,_⟩:=h.parts;obtain⟨_,_,_,_,_,k⟩:=h.parts;obtain⟨W,_,_,v⟩:=bCQ (bCF l) (s.few a).clear;have J:Ws 6 (iS l (lE (bCF l) (s.few a).clear)):=(by grind[uB,aP6]);have P:Ws 5 (iS p (whT F its (bCF p) 0 (fnS F its a l p s).1)):=uB Oa d ((bCS _ _ _).ws A) (bCS _ _ _).lenL;have T:Ws 4 (reT F its q (fnS F its a l p s).2):=(dJ _ _ _ _).ws t
  have n:OkA z:=by
   have w:=h;obtain⟨_,sx,sy,X,_,k⟩:=w.parts;exact k.parts.1
  refine⟨?_,?_,?_,b,o,a,l,_,_,_,_,rfl,rfl,rfl,.r c⟩
  ·refine Ws.of (x:=6) (y:=23) (by grind[sig]) (u.sh rfl rfl rfl Oa) J (Ws.of (x:=5) (y:=4) (by rw[B];rfl) n P T Oa) Qh
  ·show ps (.node b o {a with g:=_} (iS l _) (.node x y z (iS p _) (reT F its q _)))=_;simp only[ps,yO Ou j v,yO Oa d (bCS _ _ _).ps,(dJ _ _ _ _).ps]
  ·show(if a.a=20 then _ else _)=(if a.a=20 then _ else _);simp[*]
theorem qF:∀ (L:Tr) (i:Nat) (s:Rs),Ws 18 L->Ws 18 (hY F its L i s)/\ps (hY F its L i s)=ps L/\aO (hY F its L i s)=aO L/\bL (hY F its L i s)=bL L/\(hY F its L i s= .nil↔L= .nil):=by
 intro L
 induction L with
 |nil=>intro i s h;trivial
 |node b o a e r _ ih=>
  intro i s h;obtain⟨f,_⟩:=h.parts;obtain⟨g,d,c⟩:=aY Ot h;obtain⟨k,z,A,n,E,l,B,J,m,C,P,p,q,t,u⟩:=uS (F:=F) (its:=its) i s d;obtain⟨j,v,w,_,_⟩:=ih (i+1) (itR F its e i s) c;refine⟨Ws.of20 (x:=7) (y:=18) (by rw[g];rfl) f Oa k j,?_,?_,?_,by simp[hY]⟩
  ·grind[hY,ps]
  ·grind[hY,aO]
  ·show bL (.node b o a (itT F its e i s) _)=bL (.node b o a e r)
   grind[bL]
theorem aNP{cs:Array Value}:∀ (L:Tr) (o i:Nat) (s:Rs),Ws 18 L->jO cs o L->jO cs o (hY F its L i s):=by
 intro L
 induction L with
 |nil=>intro _ _ _ _ _;trivial
 |node b o0 a e r _ ih=>
  intro o i s h k;obtain⟨z,w,v⟩:=aY Ot h;obtain⟨A,B,l,f,g,c,m,p,d,n,q,t,u,x,y⟩:=uS (F:=F) (its:=its) i s w;refine⟨?_,ih (o+1) (i+1) _ v k.2⟩;have j:=k.1;rw[u]at l ⊢;rw[t]at j l;replace j:(if c.a=19 then Nam cs (o*3) c else if c.a=7 then cs[o]?=some (cB (.node f g c m p))else cs[o]?=some (bCH (.node f g c m p))):=j;show(if d.a=19 then Nam cs (o*3) d else if d.a=7 then cs[o]?=some (cB (.node f g d n q))else cs[o]?=some (bCH (.node f g d n q)))
  grind
structure LpI(H O N I U:Nat)(Z:Array Value)(F:cM)(its:List Tr)(L:Tr)(G:Rs)(B:World)(i:Nat)(J:Rs)(wr:World):Prop where
 ns:NsW H O N I U Z F its J wr
 fr:Fr H (PI L) B wr
 rest:IsT wr (aL i L)
 wand:∀ w2,Fr H (PI (aL i L)) wr w2->IsT w2 (hY F its (aL i L) i J)->IsT w2 (hY F its L 0 G)
 run:aAC F its (aL i L) i J=aAC F its L 0 G
variable {L:Tr} {G J:Rs} {B wr w3:World} {i:Nat}
theorem PI.e{L:Tr}(t:TypeId)(p:Int)(h:PI L t p):cU t:=h.1
theorem LpI.start(h:NsW H O N I U Z F its G B)(hi:IsT B L):LpI H O N I U Z F its L G B 0 G B:=⟨h,Fr.refl _ _ _,hi,fun _ _ h=>h,rfl⟩
theorem LpI.step(h:LpI H O N I U Z F its L G B i J wr)(y:Ws 18 L)(u:(ps L).Nodup){b o:Nat}{a:Nd}{e r:Tr}(x:aL i L= .node b o a e r)(d:aL (i+1) L=r)(n:NsW H O N I U Z F its (itR F its e i J) w3)(z:IsT w3 (itT F its e i J))(j:Fr H (PI e) wr w3):LpI H O N I U Z F its L G B (i+1) (itR F its e i J) w3:=by
 have k:=eX Ot i _ y;have E:=lT i _ u;have l:=rU i L;obtain⟨_,v,rest,m,run⟩:=h;rw[x]at k E l rest m run;obtain⟨w,s,q⟩:=aY Ot k;have E:=dZ E;obtain⟨A,C,_,_⟩:=uS (F:=F) (its:=its) i J s;refine⟨n,v.t (j.mono fun t p c=>⟨c.1,l p (fT c.2)⟩),?_,fun T g hi=>?_,?_⟩
 ·rw[d];exact IsT.fr j PI.e q rest.2.1 (fun p c P f=>E.apart p f.2 c)
 ·rw[d]at g hi;refine m T ((j.mono fun t p c=>⟨c.1,fT c.2⟩).t (g.mono fun t p c=>⟨c.1,jE c.2⟩)) ⟨?_,hi,by unfold Own;rw[w];trivial⟩;exact IsT.fr g PI.e A z (fun p c P f=>by rw[C]at c;exact E.apart p c f.2)
 ·rw[d];exact run
theorem LpI.fin(h:LpI H O N I U Z F its L G B (aO L) J wr):J=aAC F its L 0 G/\IsT wr (hY F its L 0 G):=by
 obtain⟨_,_,_,a,run⟩:=h;rw[eS]at a run;exact⟨run,a wr (Fr.refl _ _ _) trivial⟩
theorem aSW:∀ (L:Tr) (i:Nat) (F:cM),(∀ x k,bCK x F=some k->0<=k/\k < (i:Int))->∀ x k,bCK x (gaF L i F)=some k->0<=k/\k < ((i+aO L:Nat):Int):=by
 intro L
 induction L with
 |nil=>intro i F h x k c;have:=h x k c;assumption
 |node b o a e r _ ih=>
  intro i F h x k c;have d:=ih (i+1) (if(bCK (eI e) F).isSome then F else put (eI e) i F) (fun x k c=>?_) x k c
  ·simp only[aO];omega
  grind[eI,lU,Option.some.injEq,kX]
theorem kY{L:Tr}(h:Ws 18 L):Ws 18 (gaT L 0 0):=(bCV L 0 0 h).ws h
theorem aMY{t:Tr}(h:Ws 18 t):aID (toL t):=by
 intro b o a l r e j;obtain⟨i,hi⟩:=aH7 _ _ e;obtain⟨g,m,f,n,d⟩:=aBO t i _ hi;have c:=eX Ot i _ h;rw[d]at c;obtain⟨_,k,_⟩:=aY Ot c
 grind[oO,fB]
end
end Go.Proofs.YtikffmloeifkpaaGreatDoor
