/- Contracts. -/
import Derived.Test.YtikffmloeifkpaaGreatDoorQ15
set_option maxHeartbeats 16000000
set_option maxRecDepth 100000
namespace Go.Proofs.YtikffmloeifkpaaGreatDoor
section
open Go.RowKit Go.Lib Go.Deep Go.ChangeMaps Go.MapKept
def bN:Tr->Nat
 | .nil=>99
 | .node _ _ a _ _=>a.tag
def gaT:Tr->Nat->Nat->Tr
 | .nil,_,_=> .nil
 | .node b o a e r,nA,nF=>if bN e=16 then .node b o a (iX e nA) (gaT r (nA+1) nF)else .node b o a (iX e nF) (gaT r nA (nF+1))
def gaF:Tr->Nat->cM->cM
 | .nil,_,F=>F
 | .node _ _ _ e r,i,F=>gaF r (i+1) (if(look (eI e) F).isSome then F else put (eI e) i F)
def nH(k:Nat):Tr->List Value
 | .nil=>[]
 | .node _ _ _ e r=>if bN e=k then cB e::nH k r else nH k r
def qM(it vA vF:Value)(n:Int)(vS:Value):Array Value:=#[it,vA,vF,.int .i64 n,vS]
def PA(L:Tr):TypeId->Int->Prop:=fun ty p=>(ty=196\/ty=105)/\p∈ps L
theorem PA.pos{L:Tr}(t:TypeId)(p:Int)(h:PA L t p):cU t:=by rcases h.1 with h|h<;>rw[h]<;>simp[cU]
structure GaW(H pb rb fb vb:Nat)(it:Value)(w0:World)(L:Tr)(i nA nF:Nat)(F:cM)(vA vF:Value)(xA xF:List Value)(wr:World):Prop where
 blk:wr.heap[rb]?=some (.cells (bD0 pb fb vb ⟨[],0,0⟩) 149 (0,0))
 prog:wr.heap[pb]?=some (.cells (qM it vA vF 0 (.slice none 0 0)) 111 (0,0))
 first:Mp wr fb F.length F
 vars:Mp wr vb 0 []
 ne:fb≠vb
 ge:H<=rb/\H<=pb/\H<=fb/\H<=vb
 fr:Fw H (PA L) w0 wr
 rest:IsT wr (aL i L)
 wand:∀ w2,Fw H (PA (aL i L)) wr w2->IsT w2 (gaT (aL i L) nA nF)->IsT w2 (gaT L 0 0)
 ownA:wr.ownsRow H 192 1 vA nA xA
 ownF:wr.ownsRow H 106 1 vF nF xF
 hA:xA++nH 16 (aL i L)=nH 16 L
 hF:xF++nH 17 (aL i L)=nH 17 L
 cnt:nA+nF=i
theorem bEH{w:World}{base n sz k:Nat}{e:TypeId}{v:Value}{xs:List Value}(h:w.ownsRow base e sz v n xs)(hk:v.ownBlock=some k):(∃ cs,w.heap[k]?=some (.cells cs e (0,0)))/\base<=k:=by
 rcases h.2 with⟨hx,_⟩|⟨g',cap',cur,hv,hb,hh,_⟩
 ·rw[hx]at hk;simp[Value.ownBlock]at hk
 ·rw[hv]at hk;simp only[Value.ownBlock,Option.some.injEq]at hk;subst hk;exact⟨⟨cur,hh⟩,hb⟩
theorem cD{w w':World}{base n sz:Nat}{e:TypeId}{v:Value}{xs:List Value}(h:w.ownsRow base e sz v n xs)(hm:∀ k,v.ownBlock=some k->w'.heap[k]?=w.heap[k]?):w'.ownsRow base e sz v n xs:=by
 refine⟨h.1,?_⟩;rcases h.2 with h2|⟨g,cap,cur,hv,hb,hh,r⟩
 ·exact .inl h2
 ·exact .inr ⟨g,cap,cur,hv,hb,(hm g (by rw[hv];rfl)).trans hh,r⟩
theorem FrX.grown{X:TypeId->Prop}{H:Nat}{P:TypeId->Int->Prop}{u w w':World}{row:Option Nat}(h:FrX X H P u w)(hg:w.grownBy w' row)(hH:H<=w.heap.size)(hr:∀ k,row=some k->H<=k/\∀ cs t,X t->w.heap[k]?≠some (.cells cs t (0,0))):FrX X H P u w':=by
 refine h.trans ⟨hg.os,hg.tape,hg.output,hg.size,fun k hk=>hg.block k Oa (fun e=>?_),fun k cs t ht hk=>⟨cs,(hg.block k (Oo hk) (fun e=>?_)).trans hk,.inl rfl⟩⟩
 ·have:=(hr k e.symm).1;omega
 ·exact(hr k e.symm).2 cs t ht hk
theorem iB{e:Tr}(h:Ws 7 e):∃ b o a l r,e= .node b o a l r/\(a.tag=16\/a.tag=17):=by
 cases e with
 |nil=>exact absurd h (by unfold Ws bK;simp)
 |node b o a l r=>
  obtain⟨_,x,y,h0,_⟩:=h.parts
  by_cases h1:a.tag=16
  ·exact⟨b,o,a,l,r,rfl,.inl h1⟩
  by_cases h2:a.tag=17
  ·exact⟨b,o,a,l,r,rfl,.inr h2⟩
  exfalso;simp[sig,h1,h2]at h0
theorem Mp.ne_cells{w:World}{b n k:Nat}{l:cM}(h:Mp w b n l){cs:Array Value}{t:TypeId}(hk:w.heap[k]?=some (.cells cs t (0,0))):b≠k:=by
 obtain⟨es,cl,e⟩:=h.ismap;intro x;subst x;rw[e]at hk;cases hk
theorem bEF{w:World}{k j:Nat}{cs cs':Array Value}{t t':TypeId}(hk:w.heap[k]?=some (.cells cs t (0,0)))(hj:w.heap[j]?=some (.cells cs' t' (0,0)))(h:t≠t'):k≠j:=by
 intro e;subst e;rw[hk]at hj;simp only[Option.some.injEq,Obj.cells.injEq]at hj;exact h hj.2.1
theorem aHQ{k:Nat}{w w':World}{a:Nd}{l r:Tr}{i:Int}(h:Own w k a l r)(ht:a.tag=16\/a.tag=17)(hw:∀ (cs:Array Value) (t:TypeId),w.heap[k]?=some (.cells cs t (0,0))->w'.heap[k]?=some (.cells (cs.setIfInBounds 2 (.int .i64 i)) t (0,0))):Own w' k {a with which:=i} l r:=by
 unfold Own at h ⊢;dsimp only;have ne:∀ {cs:Array Value} {j:Nat} {v:Value} {x:Value},2≠j->cs[j]?=some v->(cs.setIfInBounds 2 x)[j]?=some v:=fun hj hv=>(Qh hj).trans hv;rcases ht with ht|ht<;>rw[ht]at h ⊢
 ·obtain⟨cs,hc,hn,h3,h4⟩:=h;exact⟨_,hw _ _ hc,hn.set _,ne Ob h3,ne Ob h4⟩
 ·obtain⟨cs,hc,hn,h3,x,y,z,p,q,e,h4,h5,h6⟩:=h;exact⟨_,hw _ _ hc,hn.set _,ne Ob h3,x,y,z,p,q,e,ne Ob h4,ne Ob h5,ne Ob h6⟩
theorem bCV:∀ (t:Tr) (nA nF:Nat),Ws 18 t->Sh t (gaT t nA nF):=by
 intro t
 induction t with
 |nil=>intro _ _ _;trivial
 |node b o a e r _ ih=>
  intro nA nF hw;obtain⟨_,h1,h0⟩:=aY Ot hw
  have he:∀ n:Int,Sh e (iX e n):=by
   intro n;obtain⟨b2,o2,a2,l2,r2,rfl,ht⟩:=iB h1;exact⟨rfl,rfl,rfl,rfl,rfl,rfl,rfl,rfl,fun e=>Oa,fun _=>rfl,Sh.refl _,Sh.refl _⟩
  unfold gaT
  split
  ·exact⟨rfl,rfl,rfl,rfl,rfl,rfl,rfl,rfl,fun _=>rfl,fun _=>rfl,he _,ih _ _ h0⟩
  ·exact⟨rfl,rfl,rfl,rfl,rfl,rfl,rfl,rfl,fun _=>rfl,fun _=>rfl,he _,ih _ _ h0⟩
variable {H pb rb fb vb:Nat} {it:Value} {w0 wr w' W3:World} {L:Tr} {i nA nF:Nat} {F F':cM} {vA vF:Value} {xA xF:List Value}
theorem GaW.put(h:GaW H pb rb fb vb it w0 L i nA nF F vA vF xA xF wr)(hw:Ws 18 L){n:Nat}(hm:Mp w' fb n F')(ht:wr.mapTurned w' fb):GaW H pb rb fb vb it w0 L i nA nF F' vA vF xA xF w':=by
 have h0:∀ (k:Nat) (cs:Array Value) (t:TypeId),wr.heap[k]?=some (.cells cs t (0,0))->w'.heap[k]?=wr.heap[k]?:=by
  intro k cs t hk;obtain⟨es,cl,es',cl',hb,rfl⟩:=ht;refine heap_setBlock_other hb _ ?_;intro e;subst e;rw[hb]at hk;cases hk
 have hv:w'.heap[vb]?=wr.heap[vb]?:=by
  obtain⟨es,cl,es',cl',hb,rfl⟩:=ht;exact heap_setBlock_other hb _ h.ne.symm
 have hx:Fw H (PA L) wr w':=(Fw.refl _ _ _).turned h.ge.2.2.1 ht;have h1:Fw H F0 wr w':=(Fw.refl _ _ _).turned h.ge.2.2.1 ht;refine⟨(h0 _ _ _ h.blk).trans h.blk,(h0 _ _ _ h.prog).trans h.prog,hm.tight,h.vars.same hv,h.ne,h.ge,h.fr.trans hx,?_,fun w2 h2 hi=>h.wand w2 ((h1.mono F0.to).trans h2) hi,?_,?_,h.hA,h.hF,h.cnt⟩
 ·exact IsT.fw h1 (fun t p hp=>absurd hp id) (eX Ot i _ hw) h.rest (fun _ _ _ h=>h)
 ·exact cD h.ownA (fun k hk=>by obtain⟨⟨cs,hc⟩,_⟩:=bEH h.ownA hk;exact h0 _ _ _ hc)
 ·exact cD h.ownF (fun k hk=>by obtain⟨⟨cs,hc⟩,_⟩:=bEH h.ownF hk;exact h0 _ _ _ hc)
def aAF(k:Int):TypeId->Int->Prop:=fun ty p=>(ty=196\/ty=105)/\p=k
theorem aAF.pos{k:Int}(t:TypeId)(p:Int)(h:aAF k t p):cU t:=by rcases h.1 with h|h<;>rw[h]<;>simp[cU]
theorem GaW.stepA(h:GaW H pb rb fb vb it w0 L i nA nF F vA vF xA xF wr)(hw:Ws 18 L)(y5:(ps L).Nodup)(hF:aUI H L){b o b2 o2 g cap:Nat}{a a2:Nd}{x y r:Tr}(hd:aL i L= .node b o a (.node b2 o2 a2 x y) r)(h8:aL (i+1) L=r)(ht:a2.tag=16)(own:W3.ownsRow H 192 1 (.slice (some ⟨g,0,none⟩) (nA+1) cap) (nA+1) (xA++[.pointer (some ⟨b2,0,none⟩)]))(grow:((wr.setCell ⟨b2,2,none⟩ (.int .i64 nA)).alloc (.cells #[.pointer (some ⟨b2,0,none⟩)] 192)).grownBy W3 vA.ownBlock)(z0:vA.ownBlock=some g\/g=wr.heap.size+1):
 GaW H pb rb fb vb it w0 L (i+1) (nA+1) nF F (.slice (some ⟨g,0,none⟩) (nA+1) cap) vF (xA++[.pointer (some ⟨b2,0,none⟩)]) xF (W3.setCell ⟨pb,1,none⟩ (.slice (some ⟨g,0,none⟩) (nA+1) cap))/\(W3.setCell ⟨pb,1,none⟩ (.slice (some ⟨g,0,none⟩) (nA+1) cap)).cell? ⟨b2,0,none⟩=some (.string a2.name):=by
 have k4:=eX Ot i _ hw;have uq:=lT i _ y5;have k6:=rU i L;have k9:=lO i L hF;have h0:=h.rest;have h3:=h.wand;have hA:=h.hA;have y0:=h.hF;rw[hd]at k4 uq k6 k9 h0 h3 hA y0;obtain⟨z3,k3,y3⟩:=aY Ot k4;have uq:=dZ uq;have y8:H<=b2:=k9.1.2.2 (by unfold gY;omega);have h6:=h0.1.2.2
 obtain⟨cs,hc,hn⟩:∃ cs,wr.heap[b2]?=some (.cells cs 196 (0,0))/\Nam cs 0 a2:=by
  obtain⟨cs,hc,hn,_⟩:=aI h6 (n:=16) ht;exact⟨cs,hc,hn⟩
 have h5:a2.npos∈ps (.node b2 o2 a2 x y):=aAU (by unfold po;rw[ht];simp[eO]);have hH:=Qd h.ge.1 (Nat.le_of_lt (Oo h.blk));have q1:∀ k,k≠b2->(wr.setCell ⟨b2,2,none⟩ (.int .i64 nA)).heap[k]?=wr.heap[k]?:=fun k hk=>Om hk;have s1:(wr.setCell ⟨b2,2,none⟩ (.int .i64 (nA:Int))).heap.size=wr.heap.size:=by simp[World.setCell]
 have z1:(wr.setCell ⟨b2,2,none⟩ (.int .i64 (nA:Int))).heap[b2]?=some (.cells (cs.setIfInBounds 2 (.int .i64 nA)) 196 (0,0)):=aM _ hc;have q2:∀ k,k < wr.heap.size->((wr.setCell ⟨b2,2,none⟩ (.int .i64 nA)).alloc (.cells #[.pointer (some ⟨b2,0,none⟩)] 192)).heap[k]?=(wr.setCell ⟨b2,2,none⟩ (.int .i64 nA)).heap[k]?:=fun k hk=>On (by rw[s1];exact hk);have s2:((wr.setCell ⟨b2,2,none⟩ (.int .i64 (nA:Int))).alloc (.cells #[.pointer (some ⟨b2,0,none⟩)] 192)).heap.size=wr.heap.size+1:=by simp[World.setCell]
 have q3:∀ k,k < wr.heap.size->vA.ownBlock≠some k->W3.heap[k]?=((wr.setCell ⟨b2,2,none⟩ (.int .i64 nA)).alloc (.cells #[.pointer (some ⟨b2,0,none⟩)] 192)).heap[k]?:=fun k hk h7=>grow.block k (by rw[s2];omega) (fun e=>h7 e.symm)
 have h9:∀ (k:Nat) (c:Array Value) (t:TypeId),wr.heap[k]?=some (.cells c t (0,0))->t≠192->vA.ownBlock≠some k:=by
  intro k c t hk h7 e;obtain⟨⟨c2,h1⟩,_⟩:=bEH h.ownA e;exact bEF hk h1 h7 rfl
 have y4:∀ k n l,Mp wr k n l->vA.ownBlock≠some k:=by
  intro k n l hk e;obtain⟨⟨c2,h1⟩,_⟩:=bEH h.ownA e;exact hk.ne_cells h1 rfl
 have k1:g≠pb:=by
  rcases z0 with e|e
  ·intro e2;rw[e2]at e;exact h9 pb _ _ h.prog Ob e
  ·have:=(Oo h.prog);omega
 have cellsK:∀ (k:Nat) (c:Array Value) (t:TypeId),wr.heap[k]?=some (.cells c t (0,0))->t≠192->k≠b2->W3.heap[k]?=some (.cells c t (0,0)):=by
  intro k c t hk h7 y6;have h2:=(Oo hk);rw[q3 k h2 (h9 k c t hk h7),q2 k h2,q1 k y6];exact hk
 have pb2:pb≠b2:=bEF h.prog hc Ob;have rb2:rb≠b2:=bEF h.blk hc Ob;have rpb:rb≠pb:=bEF h.blk h.prog Ob;have prog3:=cellsK pb _ _ h.prog Ob pb2
 have mapK:∀ k n l,Mp wr k n l->Mp (W3.setCell ⟨pb,1,none⟩ (.slice (some ⟨g,0,none⟩) (nA+1) cap)) k n l:=by
  intro k n l hk;have h2:=hk.lt;refine hk.same ((Om (hk.ne_cells h.prog)).trans ?_);rw[q3 k h2 (y4 k n l hk),q2 k h2,q1 k (hk.ne_cells hc)]
 have y7:W3.heap[b2]?=some (.cells (cs.setIfInBounds 2 (.int .i64 nA)) 196 (0,0)):=by
  have h2:=(Oo hc);rw[q3 b2 h2 (h9 b2 _ _ hc Ob),q2 b2 h2];exact z1
 have f1:Fw H (aAF a2.npos) wr (wr.setCell ⟨b2,2,none⟩ (.int .i64 nA)):=(Fw.refl _ _ _).write hc y8 Oa hn.2.1 ⟨Od,rfl⟩ _;have f2:=f1.alloc (.cells #[.pointer (some ⟨b2,0,none⟩)] 192) (by rw[s1];exact hH)
 have f3:Fw H (aAF a2.npos) wr W3:=f2.grown grow (by rw[s2];omega) (fun k hk=>by
  obtain⟨⟨c2,h1⟩,hb⟩:=bEH h.ownA hk;refine⟨hb,fun c t h4 e=>?_⟩;have h2:=(Oo h1);rw[q2 k h2,q1 k (bEF h1 hc Ob),h1]at e;simp only[Option.some.injEq,Obj.cells.injEq]at e;rw[<-e.2.1]at h4;exact absurd h4 (by unfold aK;decide))
 have f4:Fw H (aAF a2.npos) wr (W3.setCell ⟨pb,1,none⟩ (.slice (some ⟨g,0,none⟩) (nA+1) cap)):=f3.set h.ge.2.1 (fun c t h4 e=>by
  rw[prog3]at e;simp only[Option.some.injEq,Obj.cells.injEq]at e;rw[<-e.2.1]at h4;exact absurd h4 (by unfold aK;decide)) _ _
 have k8:(W3.setCell ⟨pb,1,none⟩ (.slice (some ⟨g,0,none⟩) (nA+1) cap)).heap[b2]?=some (.cells (cs.setIfInBounds 2 (.int .i64 nA)) 196 (0,0)):=(Om pb2.symm).trans y7;have kids:∀ t s,Ws s t->IsT wr t->(∀ p∈ps t,p≠a2.npos)->IsT (W3.setCell ⟨pb,1,none⟩ (.slice (some ⟨g,0,none⟩) (nA+1) cap)) t:=fun t s hw hi hp=>IsT.fw f4 aAF.pos hw hi (fun p h5 ty hq=>hp p h5 hq.2);have ue:=dZ (b:=b2) (o:=o2) uq.left;have k7:a2.npos∈po a2:=by unfold po;rw[ht];simp[eO]
 have z2:IsT (W3.setCell ⟨pb,1,none⟩ (.slice (some ⟨g,0,none⟩) (nA+1) cap)) (.node b2 o2 {a2 with which:=(nA:Int)} x y):=by
  obtain⟨_,sx,sy,_,y2,y1⟩:=k3.parts;refine⟨kids x _ y2 h0.1.1 (fun p hp e=>ue.own_l _ k7 (e ▸ hp)),kids y _ y1 h0.1.2.1 (fun p hp e=>ue.own_r _ k7 (e ▸ hp)),aHQ h6 Oa (fun c t k2=>?_)⟩;rw[hc]at k2;simp only[Option.some.injEq,Obj.cells.injEq]at k2;obtain⟨rfl,rfl,_⟩:=k2;exact k8
 refine⟨⟨?_,?_,mapK _ _ _ h.first,mapK _ _ _ h.vars,h.ne,h.ge,h.fr.trans (f4.mono fun t p hp=>⟨hp.1,k6 p (fT (by rw[hp.2];exact h5))⟩),?_,?_,?_,?_,?_,?_,?_⟩,?_⟩
 ·exact(Om rpb).trans (cellsK rb _ _ h.blk Ob rb2)
 ·exact aM (o:=1) _ prog3
 ·rw[h8];exact kids r _ y3 h0.2.1 (fun p hp e=>by subst e;exact uq.apart _ h5 hp)
 ·intro w2 hx hi;rw[h8]at hx hi;refine h3 w2 ((f4.mono fun t p hp=>⟨hp.1,fT (by rw[hp.2];exact h5)⟩).trans (hx.mono fun t p hp=>⟨hp.1,jE hp.2⟩)) ?_
  have e1:gaT (.node b o a (.node b2 o2 a2 x y) r) nA nF= .node b o a (.node b2 o2 {a2 with which:=(nA:Int)} x y) (gaT r (nA+1) nF):=by
   show(if a2.tag=16 then _ else _)=_;rw[if_pos ht];rfl
  rw[e1];refine⟨?_,hi,by unfold Own;rw[z3];trivial⟩;have k5:Sh (.node b2 o2 a2 x y) (.node b2 o2 {a2 with which:=(nA:Int)} x y):=⟨rfl,rfl,rfl,rfl,rfl,rfl,rfl,rfl,fun e=>Oa,fun _=>rfl,Sh.refl _,Sh.refl _⟩;exact IsT.fw hx PA.pos (k5.ws k3) z2 (fun p hp ty hq=>by rw[k5.ps]at hp;exact uq.apart p hp hq.2)
 ·refine⟨own.1,?_⟩;rcases own.2 with⟨hx,_⟩|⟨g',cap',cur,k0,y9,hh,r'⟩
  ·cases hx
  ·refine .inr ⟨g',cap',cur,k0,y9,?_,r'⟩;simp only[Value.slice.injEq,Option.some.injEq,Addr.mk.injEq]at k0;obtain⟨⟨rfl,_,_⟩,_,_⟩:=k0;exact(Om k1).trans hh
 ·refine cD h.ownF (fun k hk=>?_);obtain⟨⟨c2,h1⟩,_⟩:=bEH h.ownF hk;rw[h1];exact(Om (bEF h1 h.prog Ob)).trans (cellsK k _ _ h1 Ob (bEF h1 hc Ob))
 ·rw[h8,List.append_assoc,<-hA];show _=xA++(if a2.tag=16 then _ else _);rw[if_pos ht];rfl
 ·rw[h8,<-y0];show _=xF++(if a2.tag=17 then _ else _);rw[Oh]
 ·have:=h.cnt;omega
 ·rw[cell_of_row _ _ _ _ _ _ k8,Qh Oa];exact hn.1
theorem GaW.stepF(h:GaW H pb rb fb vb it w0 L i nA nF F vA vF xA xF wr)(hw:Ws 18 L)(y5:(ps L).Nodup)(hF:aUI H L){b o b2 o2 g cap:Nat}{a a2:Nd}{x y r:Tr}(hd:aL i L= .node b o a (.node b2 o2 a2 x y) r)(h8:aL (i+1) L=r)(ht:a2.tag=17)(own:W3.ownsRow H 106 1 (.slice (some ⟨g,0,none⟩) (nF+1) cap) (nF+1) (xF++[.pointer (some ⟨b2,0,none⟩)]))(grow:((wr.setCell ⟨b2,2,none⟩ (.int .i64 nF)).alloc (.cells #[.pointer (some ⟨b2,0,none⟩)] 106)).grownBy W3 vF.ownBlock)(z0:vF.ownBlock=some g\/g=wr.heap.size+1):
 GaW H pb rb fb vb it w0 L (i+1) nA (nF+1) F vA (.slice (some ⟨g,0,none⟩) (nF+1) cap) xA (xF++[.pointer (some ⟨b2,0,none⟩)]) (W3.setCell ⟨pb,2,none⟩ (.slice (some ⟨g,0,none⟩) (nF+1) cap))/\(W3.setCell ⟨pb,2,none⟩ (.slice (some ⟨g,0,none⟩) (nF+1) cap)).cell? ⟨b2,0,none⟩=some (.string a2.name):=by
 have k4:=eX Ot i _ hw;have uq:=lT i _ y5;have k6:=rU i L;have k9:=lO i L hF;have h0:=h.rest;have h3:=h.wand;have hA:=h.hA;have y0:=h.hF;rw[hd]at k4 uq k6 k9 h0 h3 hA y0;obtain⟨z3,k3,y3⟩:=aY Ot k4;have uq:=dZ uq;have y8:H<=b2:=k9.1.2.2 (by unfold gY;omega);have h6:=h0.1.2.2
 obtain⟨cs,hc,hn⟩:∃ cs,wr.heap[b2]?=some (.cells cs 105 (0,0))/\Nam cs 0 a2:=by
  obtain⟨cs,hc,hn,_⟩:=aI h6 (n:=17) ht;exact⟨cs,hc,hn⟩
 have h5:a2.npos∈ps (.node b2 o2 a2 x y):=aAU (by unfold po;rw[ht];simp[eO]);have hH:=Qd h.ge.1 (Nat.le_of_lt (Oo h.blk));have q1:∀ k,k≠b2->(wr.setCell ⟨b2,2,none⟩ (.int .i64 nF)).heap[k]?=wr.heap[k]?:=fun k hk=>Om hk;have s1:(wr.setCell ⟨b2,2,none⟩ (.int .i64 (nF:Int))).heap.size=wr.heap.size:=by simp[World.setCell]
 have z1:(wr.setCell ⟨b2,2,none⟩ (.int .i64 (nF:Int))).heap[b2]?=some (.cells (cs.setIfInBounds 2 (.int .i64 nF)) 105 (0,0)):=aM _ hc;have q2:∀ k,k < wr.heap.size->((wr.setCell ⟨b2,2,none⟩ (.int .i64 nF)).alloc (.cells #[.pointer (some ⟨b2,0,none⟩)] 106)).heap[k]?=(wr.setCell ⟨b2,2,none⟩ (.int .i64 nF)).heap[k]?:=fun k hk=>On (by rw[s1];exact hk);have s2:((wr.setCell ⟨b2,2,none⟩ (.int .i64 (nF:Int))).alloc (.cells #[.pointer (some ⟨b2,0,none⟩)] 106)).heap.size=wr.heap.size+1:=by simp[World.setCell]
 have q3:∀ k,k < wr.heap.size->vF.ownBlock≠some k->W3.heap[k]?=((wr.setCell ⟨b2,2,none⟩ (.int .i64 nF)).alloc (.cells #[.pointer (some ⟨b2,0,none⟩)] 106)).heap[k]?:=fun k hk h7=>grow.block k (by rw[s2];omega) (fun e=>h7 e.symm)
 have h9:∀ (k:Nat) (c:Array Value) (t:TypeId),wr.heap[k]?=some (.cells c t (0,0))->t≠106->vF.ownBlock≠some k:=by
  intro k c t hk h7 e;obtain⟨⟨c2,h1⟩,_⟩:=bEH h.ownF e;exact bEF hk h1 h7 rfl
 have y4:∀ k n l,Mp wr k n l->vF.ownBlock≠some k:=by
  intro k n l hk e;obtain⟨⟨c2,h1⟩,_⟩:=bEH h.ownF e;exact hk.ne_cells h1 rfl
 have k1:g≠pb:=by
  rcases z0 with e|e
  ·intro e2;rw[e2]at e;exact h9 pb _ _ h.prog Ob e
  ·have:=(Oo h.prog);omega
 have cellsK:∀ (k:Nat) (c:Array Value) (t:TypeId),wr.heap[k]?=some (.cells c t (0,0))->t≠106->k≠b2->W3.heap[k]?=some (.cells c t (0,0)):=by
  intro k c t hk h7 y6;have h2:=(Oo hk);rw[q3 k h2 (h9 k c t hk h7),q2 k h2,q1 k y6];exact hk
 have pb2:pb≠b2:=bEF h.prog hc Ob;have rb2:rb≠b2:=bEF h.blk hc Ob;have rpb:rb≠pb:=bEF h.blk h.prog Ob;have prog3:=cellsK pb _ _ h.prog Ob pb2
 have mapK:∀ k n l,Mp wr k n l->Mp (W3.setCell ⟨pb,2,none⟩ (.slice (some ⟨g,0,none⟩) (nF+1) cap)) k n l:=by
  intro k n l hk;have h2:=hk.lt;refine hk.same ((Om (hk.ne_cells h.prog)).trans ?_);rw[q3 k h2 (y4 k n l hk),q2 k h2,q1 k (hk.ne_cells hc)]
 have y7:W3.heap[b2]?=some (.cells (cs.setIfInBounds 2 (.int .i64 nF)) 105 (0,0)):=by
  have h2:=(Oo hc);rw[q3 b2 h2 (h9 b2 _ _ hc Ob),q2 b2 h2];exact z1
 have f1:Fw H (aAF a2.npos) wr (wr.setCell ⟨b2,2,none⟩ (.int .i64 nF)):=(Fw.refl _ _ _).write hc y8 Oa hn.2.1 ⟨Od,rfl⟩ _;have f2:=f1.alloc (.cells #[.pointer (some ⟨b2,0,none⟩)] 106) (by rw[s1];exact hH)
 have f3:Fw H (aAF a2.npos) wr W3:=f2.grown grow (by rw[s2];omega) (fun k hk=>by
  obtain⟨⟨c2,h1⟩,hb⟩:=bEH h.ownF hk;refine⟨hb,fun c t h4 e=>?_⟩;have h2:=(Oo h1);rw[q2 k h2,q1 k (bEF h1 hc Ob),h1]at e;simp only[Option.some.injEq,Obj.cells.injEq]at e;rw[<-e.2.1]at h4;exact absurd h4 (by unfold aK;decide))
 have f4:Fw H (aAF a2.npos) wr (W3.setCell ⟨pb,2,none⟩ (.slice (some ⟨g,0,none⟩) (nF+1) cap)):=f3.set h.ge.2.1 (fun c t h4 e=>by
  rw[prog3]at e;simp only[Option.some.injEq,Obj.cells.injEq]at e;rw[<-e.2.1]at h4;exact absurd h4 (by unfold aK;decide)) _ _
 have k8:(W3.setCell ⟨pb,2,none⟩ (.slice (some ⟨g,0,none⟩) (nF+1) cap)).heap[b2]?=some (.cells (cs.setIfInBounds 2 (.int .i64 nF)) 105 (0,0)):=(Om pb2.symm).trans y7;have kids:∀ t s,Ws s t->IsT wr t->(∀ p∈ps t,p≠a2.npos)->IsT (W3.setCell ⟨pb,2,none⟩ (.slice (some ⟨g,0,none⟩) (nF+1) cap)) t:=fun t s hw hi hp=>IsT.fw f4 aAF.pos hw hi (fun p h5 ty hq=>hp p h5 hq.2);have ue:=dZ (b:=b2) (o:=o2) uq.left;have k7:a2.npos∈po a2:=by unfold po;rw[ht];simp[eO]
 have z2:IsT (W3.setCell ⟨pb,2,none⟩ (.slice (some ⟨g,0,none⟩) (nF+1) cap)) (.node b2 o2 {a2 with which:=(nF:Int)} x y):=by
  obtain⟨_,sx,sy,_,y2,y1⟩:=k3.parts;refine⟨kids x _ y2 h0.1.1 (fun p hp e=>ue.own_l _ k7 (e ▸ hp)),kids y _ y1 h0.1.2.1 (fun p hp e=>ue.own_r _ k7 (e ▸ hp)),aHQ h6 Oa (fun c t k2=>?_)⟩;rw[hc]at k2;simp only[Option.some.injEq,Obj.cells.injEq]at k2;obtain⟨rfl,rfl,_⟩:=k2;exact k8
 refine⟨⟨?_,?_,mapK _ _ _ h.first,mapK _ _ _ h.vars,h.ne,h.ge,h.fr.trans (f4.mono fun t p hp=>⟨hp.1,k6 p (fT (by rw[hp.2];exact h5))⟩),?_,?_,?_,?_,?_,?_,?_⟩,?_⟩
 ·exact(Om rpb).trans (cellsK rb _ _ h.blk Ob rb2)
 ·exact aM (o:=2) _ prog3
 ·rw[h8];exact kids r _ y3 h0.2.1 (fun p hp e=>by subst e;exact uq.apart _ h5 hp)
 ·intro w2 hx hi;rw[h8]at hx hi;refine h3 w2 ((f4.mono fun t p hp=>⟨hp.1,fT (by rw[hp.2];exact h5)⟩).trans (hx.mono fun t p hp=>⟨hp.1,jE hp.2⟩)) ?_
  have e1:gaT (.node b o a (.node b2 o2 a2 x y) r) nA nF= .node b o a (.node b2 o2 {a2 with which:=(nF:Int)} x y) (gaT r nA (nF+1)):=by
   show(if a2.tag=16 then _ else _)=_;rw[Oh];rfl
  rw[e1];refine⟨?_,hi,by unfold Own;rw[z3];trivial⟩;have k5:Sh (.node b2 o2 a2 x y) (.node b2 o2 {a2 with which:=(nF:Int)} x y):=⟨rfl,rfl,rfl,rfl,rfl,rfl,rfl,rfl,fun e=>Oa,fun _=>rfl,Sh.refl _,Sh.refl _⟩;exact IsT.fw hx PA.pos (k5.ws k3) z2 (fun p hp ty hq=>by rw[k5.ps]at hp;exact uq.apart p hp hq.2)
 ·refine cD h.ownA (fun k hk=>?_);obtain⟨⟨c2,h1⟩,_⟩:=bEH h.ownA hk;rw[h1];exact(Om (bEF h1 h.prog Ob)).trans (cellsK k _ _ h1 Ob (bEF h1 hc Ob))
 ·refine⟨own.1,?_⟩;rcases own.2 with⟨hx,_⟩|⟨g',cap',cur,k0,y9,hh,r'⟩
  ·cases hx
  ·refine .inr ⟨g',cap',cur,k0,y9,?_,r'⟩;simp only[Value.slice.injEq,Option.some.injEq,Addr.mk.injEq]at k0;obtain⟨⟨rfl,_,_⟩,_,_⟩:=k0;exact(Om k1).trans hh
 ·rw[h8,<-hA];show _=xA++(if a2.tag=16 then _ else _);rw[Oh]
 ·rw[h8,List.append_assoc,<-y0];show _=xF++(if a2.tag=17 then _ else _);rw[if_pos ht];rfl
 ·have:=h.cnt;omega
 ·rw[cell_of_row _ _ _ _ _ _ k8,Qh Oa];exact hn.1
theorem GaW.fin(h:GaW H pb rb fb vb it w0 L (aO L) nA nF F vA vF xA xF wr):IsT wr (gaT L 0 0)/\xA=nH 16 L/\xF=nH 17 L:=by
 have h1:=h.wand;have h2:=h.hA;have h3:=h.hF;rw[eS]at h1 h2 h3;exact⟨h1 wr (Fw.refl _ _ _) trivial,by simpa[nH]using h2,by simpa[nH]using h3⟩
end
section
open Go.RowKit Go.Lib Go.Deep Go.ChangeMaps Go.MapKept
variable {H pb rb fb vb:Nat}
theorem Tryz.infoPA:(Tryz.prog.info? 192).map (fun i=>(i.zero,i.size,i.bytes))=some (some (.pointer none),1,8):=by kernel_rfl
theorem Tryz.infoPF:(Tryz.prog.info? 106).map (fun i=>(i.zero,i.size,i.bytes))=some (some (.pointer none),1,8):=by kernel_rfl
theorem aJY{w w0:World}{t:Tr}(h:Ws 8 t){P:TypeId->Int->Prop}(hi:IsT w0 t)(hx:Fw H P w0 w)(hP:∀ t p,P t p->cU t)(hN:∀ p,¬P 100 p){ao:Option Addr}{n cp i:Nat}(hv:bCH t= .slice ao n cp){b o:Nat}{a:Nd}{e r:Tr}(hd:aL i (bCF t)= .node b o a e r)(hE:∃ b o a l r,e= .node b o a l r/\a.tag≠19/\a.tag≠7):
 ∃ g,ao=some ⟨g,0,none⟩/\w.cell? ⟨g,i,none⟩=some (bCH e):=by
 rcases h.lst (.inr (.inr (.inr Oy)))with rfl|⟨b0,o0,a0,l0,rfl,ht,_⟩
 ·cases i<;>cases hd
 ·have h0:bCH (.node b0 o0 a0 l0 .nil)= .slice (some ⟨b0,0,none⟩) (aO l0) o0:=if_pos ht;rw[h0]at hv;simp only[Value.slice.injEq]at hv;refine⟨b0,hv.1.symm,?_⟩;have ho:=hi.2.2;have h4:l0≠ .nil:=(aI ho (n:=20) ht).1;have h3:po a0=[]:=by unfold po;rw[ht];rfl
  have o2:Own w b0 a0 l0 .nil:=dH.fw hx hP ho (fun p hp=>by rw[h3]at hp;cases hp) (fun e=>⟨h.list e h4,fun p _ hq=>absurd hq (hN p)⟩);obtain⟨_,cs,hc,hr⟩:=aI o2 (n:=20) ht;have h1:=pZ i 0 l0 hr;replace hd:aL i l0= .node b o a e r:=hd;rw[hd,Nat.zero_add]at h1;obtain⟨b2,o2,a2,l2,r2,rfl,h5,h7⟩:=hE;have h2:(if a2.tag=19 then Nam cs (i*3) a2 else if a2.tag=7 then cs[i]?=some (cB (.node b2 o2 a2 l2 r2))else cs[i]?=some (bCH (.node b2 o2 a2 l2 r2))):=h1.1;rw[if_neg h5,if_neg h7]at h2;rw[cell_of_row _ _ _ _ _ _ hc];exact h2
theorem yT(a:Addr)(w:World):(method 603 192 (.pointer (some a)) "Declared").run Tryz.prog w= .ok (384,.pointer (some a)) w:=by kernel_rfl
theorem yS(a:Addr)(w:World):(method 603 106 (.pointer (some a)) "Declared").run Tryz.prog w= .ok (382,.pointer (some a)) w:=by kernel_rfl
theorem PA.noName{L:Tr}(p:Int): ¬PA L 100 p:=fun h=>by rcases h.1 with h|h<;>exact absurd h Ob
theorem aGC{t:Tr}(hw:Ws 8 t)(hF:aUI H t)(z5:(ps t).Nodup)(w:World)(hi:IsT w t)(h:GaW H pb rb fb vb (bCH t) w (bCF t) 0 0 0 [] (.slice none 0 0) (.slice none 0 0) [] [] w):
 Calls Tryz.prog 72 #[.pointer (some ⟨rb,0,none⟩)] w fun e w'=>e= .returned (.tuple #[])/\∃ nA nF vA vF,GaW H pb rb fb vb (bCH t) w (bCF t) (aO (bCF t)) nA nF (gaF (bCF t) 0 []) vA vF (nH 16 (bCF t)) (nH 17 (bCF t)) w':=by
 obtain⟨iA,j4,j9,j8,j7⟩:=info_parts Tryz.infoPA;obtain⟨iF,j3,j6,j5,k9⟩:=info_parts Tryz.infoPF;obtain⟨ao,cp,z3⟩:=hw.lstval Ot;have hlen:=fB Ot hw;have z6:=aT t;have j1:Hid _:=z6;have z4:=jU Ot hw;have j0:Hid ((ps (bCF t)).Nodup):=by rw[Hid,<-z4];exact z5
 have y4:Hid (Ws 18 (bCF t)):=hw.elems Ot;have HW:Hid (Ws 8 t):=hw;have HF:Hid (aUI H (bCF t)):=jI hF;have HI:Hid (IsT w t):=hi;have c0:w.cell? ⟨rb,0,none⟩=some (.pointer (some ⟨pb,0,none⟩)):=Og h.blk rfl
 have p0:w.cell? ⟨pb,0,none⟩=some (bCH t):=Og h.prog rfl
 rw[z3]at p0 h;have G0:Hid _:=h;clear h hw hF z5 hi z6 z4;go_enter Tryz.func72,Tryz.ntmps72
 go_wp2_with fail
 go_loopg [19] (aD t) (fun m v wr=>∃ (i nA nF:Nat) (F:cM) (vA vF:Value) (xA xF:List Value),v= .int .i64 i/\i<=aD t/\aD t<=i+m/\GaW H pb rb fb vb (.slice ao (aD t) cp) w (bCF t) i nA nF F vA vF xA xF wr/\gaF (aL i (bCF t)) i F=gaF (bCF t) 0 []/\F.length<=i)
 case atStart=>exact⟨0,0,0,[],_,_,[],[],rfl,Qe _,Oa,G0.out,rfl,Qc _⟩
 case round=>
  clear c0 p0;obtain⟨i,nA,nF,F,vA,vF,xA,xF,rfl,hle,hm,G,k5,z8⟩:=hrel;have HG:Hid _:=G;have h5:Hid _:=k5;clear k5
  by_cases j2:i < aD t
  ·have z0:(i:Int) < (aD t:Int):=Oa
   obtain⟨b1,o1,a1,e1,r1,hd,k2⟩:=dK i (bCF t) (by rw[<-j1.out];exact j2);have y6:=eX Ot i _ y4.out;rw[hd]at y6;obtain⟨z9,y5,_⟩:=aY Ot y6;obtain⟨b2,o2,a2,x,y,rfl,y9⟩:=iB y5;obtain⟨gg,rfl,h3⟩:=aJY HW.out HI.out G.fr PA.pos PA.noName z3 hd ⟨b2,o2,a2,x,y,rfl,Oa,Oa⟩;have hv:bCH (.node b2 o2 a2 x y)= .iface (bZ a2.tag) (.pointer (some ⟨b2,0,none⟩)):=Oh;rw[hv]at h3;have h1:=G.rest;rw[hd]at h1;have y7:a2.name.size<=maxLen:=by have:=y5.parts.1.name;unfold maxLen;omega
   obtain⟨aoA,cpA,rfl,haA⟩:=eQ G.ownA;obtain⟨aoF,cpF,rfl,haF⟩:=eQ G.ownF;have hnA:nA<=10000:=by have:=G.cnt;omega
   have hnF:nF<=10000:=by have:=G.cnt;omega
   have hge:=G.ge;have hsz:=(Oo G.blk);have k6:=(Oo G.prog);rcases y9 with ht|ht
   ·have t1:=fun q=>bD1 q wr;have t2:=fun q=>qR q wr;have t3:=fun q=>pS q wr;obtain⟨cs,hc,h6,_⟩:=aI h1.1.2.2 (n:=16) ht;have m2:wr.cell? ⟨b2,2,none⟩=some (.int .i64 a2.which):=Og hc h6.2.2
    have z2:wr.frozen? ⟨b2,2,none⟩=false:=by simp[World.frozen?,hc]
    have p1:wr.cell? ⟨pb,1,none⟩=some (.slice aoA nA cpA):=Og G.prog rfl
    have pz:wr.frozen? ⟨pb,1,none⟩=false:=by simp[World.frozen?,G.prog]
    have pne:pb≠b2:=bEF G.prog hc Ob
    have ag:some pb≠(Value.slice aoA nA cpA).ownBlock:=fun e=>by
     obtain⟨⟨c2,h9⟩,_⟩:=bEH G.ownA e.symm;exact bEF G.prog h9 Ob rfl
    have own1:(wr.setCell ⟨b2,2,none⟩ (.int .i64 (nA:Int))).ownsRow H 192 1 (.slice aoA nA cpA) nA xA:=cD G.ownA (fun k hk=>by
     obtain⟨⟨c2,h9⟩,_⟩:=bEH G.ownA hk;exact Om (bEF h9 hc Ob))
    have s1:(wr.setCell ⟨b2,2,none⟩ (.int .i64 (nA:Int))).heap.size=wr.heap.size:=by simp[World.setCell]
    have N1:((wr.setCell ⟨b2,2,none⟩ (.int .i64 (nA:Int))).alloc (.cells #[.pointer (some ⟨b2,0,none⟩)] 192)).heap[pb]?=_:=(On (by rw[s1];exact k6)).trans ((Om pne).trans G.prog);have L1:pb < ((wr.setCell ⟨b2,2,none⟩ (.int .i64 (nA:Int))).alloc (.cells #[.pointer (some ⟨b2,0,none⟩)] 192)).heap.size:=by simp[World.setCell];omega
    have Y1:((wr.setCell ⟨b2,2,none⟩ (.int .i64 (nA:Int))).alloc (.cells #[.pointer (some ⟨b2,0,none⟩)] 192)).cell? ⟨pb,1,none⟩=some (.slice aoA nA cpA):=Og N1 rfl
    have Y2:((wr.setCell ⟨b2,2,none⟩ (.int .i64 (nA:Int))).alloc (.cells #[.pointer (some ⟨b2,0,none⟩)] 192)).frozen? ⟨pb,1,none⟩=false:=by simp[World.frozen?,N1]
    have y3:Hid _:=Y1;have y0:Hid _:=Y2;have k0:Hid _:=L1;have k1:Hid _:=ag;have h4:Hid _:=fun g cap w1=>HG.out.stepA (g:=g) (cap:=cap) (W3:=w1) y4.out j0.out HF.out hd k2 ht
    have h8:Hid (∀ F2:cM,F2=(if(look a2.name F).isSome then F else put a2.name i F)->gaF (aL (i+1) (bCF t)) (i+1) F2=gaF (bCF t) 0 []):=by
     intro F2 k9;rw[<-h5.out,hd,k2,k9];rfl
    rw[show bZ a2.tag=192 by rw[ht];rfl]at h3;clear h1 G y6 y5 hv hc h6 N1 L1 Y1 Y2 ag ht z9 k2 hd h5 HG;go_upto_region 13 with(at_builtin;refine wpList_append_lies _ rfl _ _ 108 rfl H 192 iA _ 1 8 Tryz.underlying108 j4 j9 j8 j7 rfl Oa (.slice aoA nA cpA) nA xA rfl (own1.alloc _) ⟨wr.heap.size,0,none⟩ 1 1 [.pointer (some ⟨b2,0,none⟩)] rfl rfl (World.news_of_block (cs:=#[.pointer (some ⟨b2,0,none⟩)]) (t:=192) (fr:=(0,0)) (by rw[<-s1];exact Qb _ _)) (by simp[Value.oneCell']) Oa (by unfold maxLen;omega) Oa (by simp[World.setCell];omega) (wr.heap.size+1) (by simp[World.setCell]) ?_;intro g cap w1 h2 h0 k8 z1;have y1:=(h0.cell_far ⟨pb,1,none⟩ k0.out k1.out).trans y3.out;have y2:=(h0.frozen_far ⟨pb,1,none⟩ k0.out k1.out).trans y0.out)
    obtain⟨G4,nm4⟩:=h4.out g cap w1 h2 h0 k8;clear h4 h2 h0 k8 y1 y2 y3 y0 k0 k1 own1 s1 m2 z2 p1 pz pne t1 t2 t3 h3;generalize w1.setCell ⟨pb,1,none⟩ (.slice (some ⟨g,0,none⟩) (nA+1) cap)=W4 at*;have me:=yT ⟨b2,0,none⟩ W4;have r1:W4.cell? ⟨rb,1,none⟩=some (.map (some fb)):=Og G4.blk rfl
    have k7:=G4.first.look_ok a2.name y7;obtain⟨m,rfl⟩:=Oj gk;cases hv:(look a2.name F).isSome
    ·rw[hv]at k7;have y8:(Lit.int .i64 (i:Int)).wf=true:=by simp[Lit.wf,IntKind.min,IntKind.max,IntKind.bits,IntKind.signed];omega
     obtain⟨W5,k4,h7,k3⟩:=G4.first.put (by unfold maxLen;omega) a2.name y7 i y8
     have fin:∃ (i' nA nF:Nat) (F:cM) (vA vF:Value) (xA xF:List Value),Value.int .i64 ((i:Int)+1)= .int .i64 i'/\i'<=aD t/\aD t<=i'+m/\GaW H pb rb fb vb (.slice (some ⟨gg,0,none⟩) (aD t) cp) w (bCF t) i' nA nF F vA vF xA xF W5/\gaF (aL i' (bCF t)) i' F=gaF (bCF t) 0 []/\F.length<=i':=
      ⟨i+1,_,_,_,_,_,_,_,Od,Oa,Oa,G4.put y4.out h7 k3,h8.out _ (by rw[hv];rfl),by rw[nO,hv];simpa using z8⟩
     clear h7 k3 h8 G4 hv;go_wp2;go_roundg m
     case rel=>exact fin
     case measure=>omega
    ·rw[hv]at k7
     have fin:∃ (i' nA nF:Nat) (F:cM) (vA vF:Value) (xA xF:List Value),Value.int .i64 ((i:Int)+1)= .int .i64 i'/\i'<=aD t/\aD t<=i'+m/\GaW H pb rb fb vb (.slice (some ⟨gg,0,none⟩) (aD t) cp) w (bCF t) i' nA nF F vA vF xA xF W4/\gaF (aL i' (bCF t)) i' F=gaF (bCF t) 0 []/\F.length<=i':=
      ⟨i+1,_,_,_,_,_,_,_,Od,Oa,Oa,G4,h8.out _ (by rw[hv];rfl),Oa⟩
     clear h8 G4 hv;go_wp2;go_roundg m
     case rel=>exact fin
     case measure=>omega
   ·have t1:=fun q=>bD1 q wr;have t2:=fun q=>qR q wr;have t3:=fun q=>pS q wr;obtain⟨cs,hc,h6,_⟩:=aI h1.1.2.2 (n:=17) ht;have m2:wr.cell? ⟨b2,2,none⟩=some (.int .i64 a2.which):=Og hc h6.2.2
    have z2:wr.frozen? ⟨b2,2,none⟩=false:=by simp[World.frozen?,hc]
    have p1:wr.cell? ⟨pb,2,none⟩=some (.slice aoF nF cpF):=Og G.prog rfl
    have pz:wr.frozen? ⟨pb,2,none⟩=false:=by simp[World.frozen?,G.prog]
    have pne:pb≠b2:=bEF G.prog hc Ob
    have ag:some pb≠(Value.slice aoF nF cpF).ownBlock:=fun e=>by
     obtain⟨⟨c2,h9⟩,_⟩:=bEH G.ownF e.symm;exact bEF G.prog h9 Ob rfl
    have own1:(wr.setCell ⟨b2,2,none⟩ (.int .i64 (nF:Int))).ownsRow H 106 1 (.slice aoF nF cpF) nF xF:=cD G.ownF (fun k hk=>by
     obtain⟨⟨c2,h9⟩,_⟩:=bEH G.ownF hk;exact Om (bEF h9 hc Ob))
    have s1:(wr.setCell ⟨b2,2,none⟩ (.int .i64 (nF:Int))).heap.size=wr.heap.size:=by simp[World.setCell]
    have N1:((wr.setCell ⟨b2,2,none⟩ (.int .i64 (nF:Int))).alloc (.cells #[.pointer (some ⟨b2,0,none⟩)] 106)).heap[pb]?=_:=(On (by rw[s1];exact k6)).trans ((Om pne).trans G.prog);have L1:pb < ((wr.setCell ⟨b2,2,none⟩ (.int .i64 (nF:Int))).alloc (.cells #[.pointer (some ⟨b2,0,none⟩)] 106)).heap.size:=by simp[World.setCell];omega
    have Y1:((wr.setCell ⟨b2,2,none⟩ (.int .i64 (nF:Int))).alloc (.cells #[.pointer (some ⟨b2,0,none⟩)] 106)).cell? ⟨pb,2,none⟩=some (.slice aoF nF cpF):=Og N1 rfl
    have Y2:((wr.setCell ⟨b2,2,none⟩ (.int .i64 (nF:Int))).alloc (.cells #[.pointer (some ⟨b2,0,none⟩)] 106)).frozen? ⟨pb,2,none⟩=false:=by simp[World.frozen?,N1]
    have y3:Hid _:=Y1;have y0:Hid _:=Y2;have k0:Hid _:=L1;have k1:Hid _:=ag;have h4:Hid _:=fun g cap w1=>HG.out.stepF (g:=g) (cap:=cap) (W3:=w1) y4.out j0.out HF.out hd k2 ht
    have h8:Hid (∀ F2:cM,F2=(if(look a2.name F).isSome then F else put a2.name i F)->gaF (aL (i+1) (bCF t)) (i+1) F2=gaF (bCF t) 0 []):=by
     intro F2 k9;rw[<-h5.out,hd,k2,k9];rfl
    rw[show bZ a2.tag=106 by rw[ht];rfl]at h3;clear h1 G y6 y5 hv hc h6 N1 L1 Y1 Y2 ag ht z9 k2 hd h5 HG;go_upto_region 13 with(at_builtin;refine wpList_append_lies _ rfl _ _ 109 rfl H 106 iF _ 1 8 Tryz.underlying109 j3 j6 j5 k9 rfl Oa (.slice aoF nF cpF) nF xF rfl (own1.alloc _) ⟨wr.heap.size,0,none⟩ 1 1 [.pointer (some ⟨b2,0,none⟩)] rfl rfl (World.news_of_block (cs:=#[.pointer (some ⟨b2,0,none⟩)]) (t:=106) (fr:=(0,0)) (by rw[<-s1];exact Qb _ _)) (by simp[Value.oneCell']) Oa (by unfold maxLen;omega) Oa (by simp[World.setCell];omega) (wr.heap.size+1) (by simp[World.setCell]) ?_;intro g cap w1 h2 h0 k8 z1;have y1:=(h0.cell_far ⟨pb,2,none⟩ k0.out k1.out).trans y3.out;have y2:=(h0.frozen_far ⟨pb,2,none⟩ k0.out k1.out).trans y0.out)
    obtain⟨G4,nm4⟩:=h4.out g cap w1 h2 h0 k8;clear h4 h2 h0 k8 y1 y2 y3 y0 k0 k1 own1 s1 m2 z2 p1 pz pne t1 t2 t3 h3;generalize w1.setCell ⟨pb,2,none⟩ (.slice (some ⟨g,0,none⟩) (nF+1) cap)=W4 at*;have me:=yS ⟨b2,0,none⟩ W4;have r1:W4.cell? ⟨rb,1,none⟩=some (.map (some fb)):=Og G4.blk rfl
    have k7:=G4.first.look_ok a2.name y7;obtain⟨m,rfl⟩:=Oj gk;cases hv:(look a2.name F).isSome
    ·rw[hv]at k7;have y8:(Lit.int .i64 (i:Int)).wf=true:=by simp[Lit.wf,IntKind.min,IntKind.max,IntKind.bits,IntKind.signed];omega
     obtain⟨W5,k4,h7,k3⟩:=G4.first.put (by unfold maxLen;omega) a2.name y7 i y8
     have fin:∃ (i' nA nF:Nat) (F:cM) (vA vF:Value) (xA xF:List Value),Value.int .i64 ((i:Int)+1)= .int .i64 i'/\i'<=aD t/\aD t<=i'+m/\GaW H pb rb fb vb (.slice (some ⟨gg,0,none⟩) (aD t) cp) w (bCF t) i' nA nF F vA vF xA xF W5/\gaF (aL i' (bCF t)) i' F=gaF (bCF t) 0 []/\F.length<=i':=
      ⟨i+1,_,_,_,_,_,_,_,Od,Oa,Oa,G4.put y4.out h7 k3,h8.out _ (by rw[hv];rfl),by rw[nO,hv];simpa using z8⟩
     clear h7 k3 h8 G4 hv;go_wp2;go_roundg m
     case rel=>exact fin
     case measure=>omega
    ·rw[hv]at k7
     have fin:∃ (i' nA nF:Nat) (F:cM) (vA vF:Value) (xA xF:List Value),Value.int .i64 ((i:Int)+1)= .int .i64 i'/\i'<=aD t/\aD t<=i'+m/\GaW H pb rb fb vb (.slice (some ⟨gg,0,none⟩) (aD t) cp) w (bCF t) i' nA nF F vA vF xA xF W4/\gaF (aL i' (bCF t)) i' F=gaF (bCF t) 0 []/\F.length<=i':=
      ⟨i+1,_,_,_,_,_,_,_,Od,Oa,Oa,G4,h8.out _ (by rw[hv];rfl),Oa⟩
     clear h8 G4 hv;go_wp2;go_roundg m
     case rel=>exact fin
     case measure=>omega
  ·have z0: ¬(i:Int) < (aD t:Int):=Oa
   have z7:i=aO (bCF t):=by rw[<-j1.out];omega
   have fin:∃ nA nF vA vF,GaW H pb rb fb vb (.slice ao (aD t) cp) w (bCF t) (aO (bCF t)) nA nF (gaF (bCF t) 0 []) vA vF (nH 16 (bCF t)) (nH 17 (bCF t)) wr:=by
    subst z7;obtain⟨_,e1,e2⟩:=G.fin;have e3:=h5.out;rw[eS]at e3;have e4:F=gaF (bCF t) 0 []:=e3;rw[e1,e2,e4]at G;exact⟨nA,nF,vA,vF,G⟩
   clear z7 G HG h5;go_wp2;go_end0
   exact⟨rfl,fin⟩
end
section
open Go.RowKit Go.Lib Go.Deep Go.ChangeMaps Go.MapKept
variable {H pb rb fb vb:Nat} {pc:Array Value} {F:cM} {its:List Tr}
def Rs.six(s:Rs)(a:Nd):Rs:=if 6<=a.which then s.fail 5 a.npos else s
def mH(a:Nd):Bool:=decide (a.val < 1)||decide (64 < a.val)
def Rs.arr(s:Rs)(a:Nd):Rs:=if mH a then(s.six a).fail 5 a.pos else s.six a
theorem xN{k:Nat}{a:Nd}{l r:Tr}(w:World)(h:Own w k a l r)(ht:a.tag=16):w.cell? ⟨k,2,none⟩=some (.int .i64 a.which)/\w.cell? ⟨k,1,none⟩=some (.int .i64 a.npos)/\w.cell? ⟨k,0,none⟩=some (.string a.name)/\w.cell? ⟨k,3,none⟩=some (.int .i64 a.val)/\w.cell? ⟨k,4,none⟩=some (.int .i64 a.pos):=by
 obtain⟨cs,hc,hn,h3,h4⟩:=aI h (n:=16) ht;exact⟨Og hc hn.2.2,Og hc hn.2.1,Og hc hn.1,Og hc h3,Og hc h4⟩
theorem vI{b:Nat}{a:Nd}{l r:Tr}(ht:a.tag=16)(hv:mH a=true\/mH a=false)(s:Rs)(w:World)(h:RsW H pb rb fb vb pc F s w)(ho:Own w b a l r):
 Calls Tryz.prog 127 #[.pointer (some ⟨rb,0,none⟩),.pointer (some ⟨b,0,none⟩)] w fun e w'=>e= .returned (.tuple #[])/\RsW H pb rb fb vb pc F (s.arr a) w'/\Fr H F0 w w':=by
 obtain⟨m2,m1,_,m3,m4⟩:=xN w ho ht
 by_cases hk:6<=a.which
 ·have h6:Hid (s.six a=s.fail 5 a.npos):=if_pos hk;have HO:Hid (Own w b a l r):=ho;clear ho m3 m4;rcases hv with hv|hv
  ·have hs:Hid (s.arr a=(s.fail 5 a.npos).fail 5 a.pos):=by unfold Hid Rs.arr;rw[hv,h6.out];rfl
   have h0:a.val < 1\/64 < a.val:=by simpa[mH]using hv
   rcases h0 with h0|h0
   ·go_enter Tryz.func127,Tryz.ntmps127
    go_wp2_with fail
    refine(bCJ 5 a.npos w h).mono ?_;rintro e W2 ⟨rfl,h2,x2⟩;obtain⟨_,_,_,m3,m4⟩:=xN W2 (cX HO.out x2 F0.body (fun p hp ty hq=>hq) Oa) ht;go_wp2_with fail
    refine(bCJ 5 a.pos W2 h2).mono ?_;rintro e W3 ⟨rfl,h3,x3⟩;go_wp2;go_end0
    exact⟨rfl,by rw[hs.out];exact h3,x2.trans x3⟩
   ·have h1: ¬a.val < 1:=Oa
    go_enter Tryz.func127,Tryz.ntmps127
    go_wp2_with fail
    refine(bCJ 5 a.npos w h).mono ?_;rintro e W2 ⟨rfl,h2,x2⟩;obtain⟨_,_,_,m3,m4⟩:=xN W2 (cX HO.out x2 F0.body (fun p hp ty hq=>hq) Oa) ht;go_wp2_with fail
    refine(bCJ 5 a.pos W2 h2).mono ?_;rintro e W3 ⟨rfl,h3,x3⟩;go_wp2;go_end0
    exact⟨rfl,by rw[hs.out];exact h3,x2.trans x3⟩
  ·have hs:Hid (s.arr a=s.fail 5 a.npos):=by unfold Hid Rs.arr;rw[hv,h6.out];rfl
   obtain⟨h0,h1⟩: ¬a.val < 1/\¬64 < a.val:=by simp[mH]at hv;omega
   go_enter Tryz.func127,Tryz.ntmps127
   go_wp2_with fail
   refine(bCJ 5 a.npos w h).mono ?_;rintro e W2 ⟨rfl,h2,x2⟩;obtain⟨_,_,_,m3,m4⟩:=xN W2 (cX HO.out x2 F0.body (fun p hp ty hq=>hq) Oa) ht;go_wp2;go_end0
   exact⟨rfl,by rw[hs.out];exact h2,x2⟩
 ·have h6:Hid (s.six a=s):=if_neg hk;clear ho;rcases hv with hv|hv
  ·have hs:Hid (s.arr a=s.fail 5 a.pos):=by unfold Hid Rs.arr;rw[hv,h6.out];rfl
   have h0:a.val < 1\/64 < a.val:=by simpa[mH]using hv
   rcases h0 with h0|h0
   ·go_enter Tryz.func127,Tryz.ntmps127
    go_wp2_with fail
    refine(bCJ 5 a.pos w h).mono ?_;rintro e W3 ⟨rfl,h3,x3⟩;go_wp2;go_end0
    exact⟨rfl,by rw[hs.out];exact h3,x3⟩
   ·have h1: ¬a.val < 1:=Oa
    go_enter Tryz.func127,Tryz.ntmps127
    go_wp2_with fail
    refine(bCJ 5 a.pos w h).mono ?_;rintro e W3 ⟨rfl,h3,x3⟩;go_wp2;go_end0
    exact⟨rfl,by rw[hs.out];exact h3,x3⟩
  ·have hs:Hid (s.arr a=s):=by unfold Hid Rs.arr;rw[hv,h6.out];rfl
   obtain⟨h0,h1⟩: ¬a.val < 1/\¬64 < a.val:=by simp[mH]at hv;omega
   go_enter Tryz.func127,Tryz.ntmps127
   go_wp2;go_end0
   exact⟨rfl,by rw[hs.out];exact h,Fr.refl _ _ _⟩
def Rs.twice(s:Rs)(F:cM)(a:Nd)(i:Nat):Rs:=if(look a.name F).getD 0=(i:Int)then s else s.fail 4 a.npos
def itR(F:cM)(its:List Tr)(t:Tr)(i:Nat)(s:Rs):Rs:=match t with
 | .nil=>s
 | .node b o a l r=>if a.tag=16 then(s.twice F a i).arr a else fnR F its (.node b o a l r) (s.twice F a i)
def itT(F:cM)(its:List Tr)(t:Tr)(i:Nat)(s:Rs):Tr:=match t with
 | .nil=> .nil
 | .node b o a l r=>if a.tag=16 then .node b o a l r else fnT F its (.node b o a l r) (s.twice F a i)
theorem oO{b o:Nat}{a:Nd}{l r:Tr}(h:Ws 7 (.node b o a l r))(ht:a.tag=17):Ws 6 l/\∃ x y z p q,r= .node x y z p q/\z.tag=18/\Ws 5 p/\Ws 4 q:=by
 obtain⟨_,sx,sy,h0,hl,hr⟩:=h.parts;rw[ht]at h0;cases h0;refine⟨hl,?_⟩;cases r with
 |nil=>exact absurd hr (by unfold Ws bK;simp)
 |node x y z p q=>
  obtain⟨_,sp,sq,h1,hp,hq⟩:=hr.parts
  have hz:z.tag=18:=by
   by_cases h:z.tag=18
   ·exact h
   ·exfalso;simp[sig,h]at h1
  rw[hz]at h1;cases h1;exact⟨x,y,z,p,q,rfl,hz,hp,hq⟩
theorem aFM(u:TypeId)(v:Value)(w:World):(Instr.typeAssert (.iface u v) 151 192 true).run Tryz.prog w= .ok (.tuple #[if u=192 then v else .pointer none,.bool (decide (u=192))]) w:=eY _ u v w Tryz.underlying192 (by kernel_rfl)
theorem aFK(u:TypeId)(v:Value)(w:World):(Instr.typeAssert (.iface u v) 151 106 true).run Tryz.prog w= .ok (.tuple #[if u=106 then v else .pointer none,.bool (decide (u=106))]) w:=eY _ u v w Tryz.underlying106 (by kernel_rfl)
theorem aBD(b:Nat)(w:World):Calls Tryz.prog 384 #[.pointer (some ⟨b,0,none⟩)] w fun e w'=>e= .returned (.pointer (some ⟨b,0,none⟩))/\w=w':=by
 go_enter Tryz.func384,Tryz.ntmps384
 go_wp2;go_ret;exact⟨rfl,rfl⟩
theorem aBC(b:Nat)(w:World):Calls Tryz.prog 382 #[.pointer (some ⟨b,0,none⟩)] w fun e w'=>e= .returned (.pointer (some ⟨b,0,none⟩))/\w=w':=by
 go_enter Tryz.func382,Tryz.ntmps382
 go_wp2;go_ret;exact⟨rfl,rfl⟩
theorem aG5{b o:Nat}{a:Nd}{l r:Tr}(h5:aID its)(hw:Ws 7 (.node b o a l r))(hF:aUI H (.node b o a l r))(h8:(ps (.node b o a l r)).Nodup)(h1:20000+eE (.node b o a l r)<=1000000)(i:Nat)(_hi5:i<=100000)(s:Rs)(w:World)(h:NsW H pb rb fb vb pc F its s w)(hi:IsT w (.node b o a l r)):
 Calls Tryz.prog 73 #[.pointer (some ⟨rb,0,none⟩),.int .i64 i,bCH (.node b o a l r)] w (aBL H pb rb fb vb pc F its (.node b o a l r) (itT F its (.node b o a l r) i s) (itR F its (.node b o a l r) i s) w):=by
 obtain⟨_,_,_,_,_,e7,h7⟩:=iB hw;simp only[BT.node.injEq]at e7;obtain⟨rfl,rfl,rfl,rfl,rfl⟩:=e7;have hn:a.name.size<=maxLen:=by have:=hw.parts.1.name;unfold maxLen;omega
 have hv:bCH (.node b o a l r)= .iface (bZ a.tag) (.pointer (some ⟨b,0,none⟩)):=Oh;rw[hv];clear hv;have h0:=hi.2.2;have c1:w.cell? ⟨rb,1,none⟩=some (.map (some fb)):=h.rs.cell 1
 obtain⟨n0,n1⟩:w.cell? ⟨b,0,none⟩=some (.string a.name)/\w.cell? ⟨b,1,none⟩=some (.int .i64 a.npos):=by
  rcases h7 with ht|ht
  ·obtain⟨cs,hc,hn,_⟩:=aI h0 (n:=16) ht;exact⟨Og hc hn.1,Og hc hn.2.1⟩
  ·obtain⟨cs,hc,hn,_⟩:=aI h0 (n:=17) ht;exact⟨Og hc hn.1,Og hc hn.2.1⟩
 have hlk:∀ n,(Instr.lookup 147 (.map (some fb)) (.string a.name) false).run Tryz.prog (w.drewN n)= .ok (.int .i64 ((look a.name F).getD 0)) (w.drewN n):=fun n=>(h.rs.drewN n).first.look a.name hn;have t1:=fun u v w=>aFM u v w;have t2:=fun u v w=>aFK u v w;have m1:=fun w=>yT ⟨b,0,none⟩ w;have m2:=fun w=>yS ⟨b,0,none⟩ w;rcases h7 with ht|ht
 ·have hR:itR F its (.node b o a l r) i s=(s.twice F a i).arr a:=if_pos ht;have hT:itT F its (.node b o a l r) i s= .node b o a l r:=if_pos ht;rw[hR,hT,show bZ a.tag=192 by rw[ht];rfl]
  have FIN:Hid (∀ W2 W3,Fr H F0 w W2->Fr H F0 W2 W3->RsW H pb rb fb vb pc F ((s.twice F a i).arr a) W3->aBL H pb rb fb vb pc F its (.node b o a l r) (.node b o a l r) ((s.twice F a i).arr a) w (.returned (.tuple #[])) W3):=by
   intro W2 W3 x2 x3 h3;have x:=x2.trans x3;exact⟨rfl,h.fr h3 x F0.body,IsT.fr x (fun t p hp=>absurd hp id) hw hi (fun _ _ _ h=>h),x.mono F0.to⟩
  have HO:Hid (Own w b a l r):=h0;have HT:Hid (a.tag=16):=ht;have hb:mH a=true\/mH a=false:=by cases mH a<;>simp
  clear hR hT h0 hi hw hF h8 h1 h5
  by_cases hk:(look a.name F).getD 0=(i:Int)
  ·have hs:s.twice F a i=s:=if_pos hk;rw[hs]at FIN ⊢;have h9:((look a.name F).getD 0 !=(i:Int))=false:=by simpa using hk
   have h6:=h.rs;clear hs hk ht h;go_enter Tryz.func73,Tryz.ntmps73
   go_wp2_with fail
   refine(aBD b w).mono ?_;rintro e w' ⟨rfl,rfl⟩;go_wp2_with fail
   go_quiet (fail)
   go_wp2_with fail
   refine(vI HT.out hb s _ (h6.drewN nq) HO.out).mono ?_;rintro e W3 ⟨rfl,h3,x3⟩;go_wp2;go_end0
   exact FIN.out _ W3 ((Fr.refl H F0 w).drewN nq) x3 h3
  ·have hs:s.twice F a i=s.fail 4 a.npos:=if_neg hk;rw[hs]at FIN ⊢;have h9:((look a.name F).getD 0 !=(i:Int))=true:=by simpa using hk
   have h6:=h.rs;clear hs hk ht h;go_enter Tryz.func73,Tryz.ntmps73
   go_wp2_with fail
   refine(aBD b w).mono ?_;rintro e w' ⟨rfl,rfl⟩;go_wp2_with fail
   go_quiet (fail)
   go_wp2_with fail
   refine(bCJ 4 a.npos _ (h6.drewN nq)).mono ?_;rintro e W2 ⟨rfl,h2,x2⟩;have o2:Own W2 b a l r:=cX (w:=w.drewN nq) HO.out x2 F0.body (fun p hp ty hq=>hq) (Oi HT.out);go_wp2_with fail
   refine(vI HT.out hb (s.fail 4 a.npos) W2 h2 o2).mono ?_;rintro e W3 ⟨rfl,h3,x3⟩;go_wp2;go_end0
   exact FIN.out W2 W3 (((Fr.refl H F0 w).drewN nq).trans x2) x3 h3
 ·obtain⟨k2,x,y,z,p,q,rfl,hz,k1,k0⟩:=oO hw ht;have hR:itR F its (.node b o a l (.node x y z p q)) i s=fnR F its (.node b o a l (.node x y z p q)) (s.twice F a i):=Oh;have hT:itT F its (.node b o a l (.node x y z p q)) i s=fnT F its (.node b o a l (.node x y z p q)) (s.twice F a i):=Oh;rw[hR,hT,show bZ a.tag=106 by rw[ht];rfl]
  have k3:20000+eE p+eE q<=1000000:=by
   rw[eD,eD]at h1;omega
  have FN:Hid (∀ s w,NsW H pb rb fb vb pc F its s w->IsT w (.node b o a l (.node x y z p q))->_):=zM h5 ht hz k2 k1 k0 hF h8 k3;have KEEP:Hid (∀ W2,Fr H F0 w W2->IsT W2 (.node b o a l (.node x y z p q))):=fun W2 x2=>IsT.fr x2 (fun t p hp=>absurd hp id) hw hi (fun _ _ _ h=>h);have HN:Hid (NsW H pb rb fb vb pc F its s w):=h;have h6:=h.rs;clear hR hT h0 hi hw hF h8 h1 h5 h k2 k1 k0 k3 ht
  by_cases hk:(look a.name F).getD 0=(i:Int)
  ·have hs:s.twice F a i=s:=if_pos hk;rw[hs];have h9:((look a.name F).getD 0 !=(i:Int))=false:=by simpa using hk
   clear hs hk;go_enter Tryz.func73,Tryz.ntmps73
   go_wp2_with fail
   refine(aBC b w).mono ?_;rintro e w' ⟨rfl,rfl⟩;go_wp2_with fail
   go_quiet (fail)
   have x2:=(Fr.refl H F0 w).drewN nq;have h4:=FN.out s (w.drewN nq) (HN.out.fr (h6.drewN nq) x2 F0.body) (KEEP.out _ x2);go_wp2_with fail
   refine h4.mono ?_;rintro e W3 ⟨rfl,h3,i3,x3⟩;go_wp2;go_end0
   exact⟨rfl,h3,i3,(x2.mono F0.to).trans x3⟩
  ·have hs:s.twice F a i=s.fail 4 a.npos:=if_neg hk;rw[hs];have h9:((look a.name F).getD 0 !=(i:Int))=true:=by simpa using hk
   clear hs hk;go_enter Tryz.func73,Tryz.ntmps73
   go_wp2_with fail
   refine(aBC b w).mono ?_;rintro e w' ⟨rfl,rfl⟩;go_wp2_with fail
   go_quiet (fail)
   go_wp2_with fail
   refine(bCJ 4 a.npos _ (h6.drewN nq)).mono ?_;rintro e W2 ⟨rfl,h2,x2'⟩;have x2:=((Fr.refl H F0 w).drewN nq).trans x2';have h4:=FN.out (s.fail 4 a.npos) W2 (HN.out.fr h2 x2 F0.body) (KEEP.out _ x2);go_wp2_with fail
   refine h4.mono ?_;rintro e W3 ⟨rfl,h3,i3,x3⟩;go_wp2;go_end0
   exact⟨rfl,h3,i3,(x2.mono F0.to).trans x3⟩
end
end Go.Proofs.YtikffmloeifkpaaGreatDoor
