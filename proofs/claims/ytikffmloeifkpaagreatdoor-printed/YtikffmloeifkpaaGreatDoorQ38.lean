/- Contracts. -/
import Derived.Test.YtikffmloeifkpaaGreatDoorQ36
import Derived.Test.YtikffmloeifkpaaGreatDoorQ22
import Derived.Test.YtikffmloeifkpaaGreatDoorQ23
namespace Go.Proofs.YtikffmloeifkpaaGreatDoor
section
open Go.RowKit Go.Lib Go.Deep
variable {lens:Nat->Int} {fl:List Tr} {C:Cl} {vars:Nat->Int} {Fg:Fl}
def OkS(s:St):Prop:=∀ vs,s=some vs->∀ i,bV (vs i)
def InS(s:St)(vars:Nat->Int):Prop:=∃ vs,s=some vs/\∀ i,i < 12->inR (vs i) (vars i)
theorem OkS.some{vs:Vr}(h:∀ i,bV (vs i)):OkS (some vs):=fun v e=>by cases e;exact h
theorem OkS.none:OkS none:=fun v e=>by cases e
theorem OkS.vs{s:St}(h:OkS s):∀ i,bV (cC s i):=by
 cases s with
 |none=>exact fun _=>bV.zero
 |some vs=>exact h vs rfl
theorem InS.alive{s:St}(h:InS s vars):s.isSome=true/\∀ i,i < 12->inR (cC s i) (vars i):=by
 obtain⟨vs,rfl,h2⟩:=h;exact⟨rfl,h2⟩
theorem OkS.upd{vs:Vr}(h:∀ i,bV (vs i))(k:Nat){r:Rg}(hr:bV r):OkS (Option.some (oT vs k r)):=OkS.some fun i=>by
 show bV (if i=k then r else vs i)
 split
 ·exact hr
 ·exact h i
theorem sG{s:St}(h:OkS s)(d:Sd)(lim:Rg):OkS (jY s d lim):=by
 cases s with
 |none=>exact OkS.none
 |some vs=>
  show OkS (if d.2= -1 then _ else _)
  split
  ·exact h
  split
  ·exact OkS.none
  ·rename_i he;exact OkS.upd (h vs rfl) _ ((h vs rfl _).cut (by simpa using he))
structure SdOk(d:Sd)(v:Int)(vars:Nat->Int):Prop where
 ok:bV d.1
 mem:inR d.1 v
 var:d.2≠-1->vars d.2.toNat=v/\d.2.toNat < 12
theorem sJ{s:St}(h:OkS s)(a b:Sd)(far:Int):OkS (jK s a b far):=by
 unfold jK
 split
 ·exact OkS.none
 ·exact sG (sG h _ _) _ _
theorem aD3{s:St}(h:OkS s)(a b:Sd):OkS (jA s a b):=by
 unfold jA;dsimp only
 have h1:OkS (if eH b.1=true then jY s a (dS a.1 b.1.1)else s):=by
  split
  ·exact sG h _ _
  ·exact h
 split
 ·exact sG h1 _ _
 ·exact h1
theorem bF6{s:St}(h:OkS s)(op:Int)(a b:Sd):OkS (jW s op a b):=by
 unfold jW
 split
 ·exact sJ h _ _ _
 split
 ·exact sJ h _ _ _
 split
 ·exact sJ h _ _ _
 split
 ·exact sJ h _ _ _
 split
 ·exact sG (sG h _ _) _ _
 ·exact aD3 h _ _
theorem nP{s o:St}(h:OkS s)(k:OkS o):OkS (lF s o):=by
 cases o with
 |none=>exact h
 |some t=>
  cases s with
  |none=>exact k
  |some g=>exact OkS.some fun i=>(k t rfl i).meet (h g rfl i)
theorem wK{alive:Bool}{vs:Vr}(h2:∀ i,bV (vs i)):∀ (t:Tr) (s:Nat) (F:Fl),Ws s t->OkL (exA lens fl alive vs t F).1:=by
 intro t
 induction t with
 |nil=>intro s F _ r h;cases h
 |node b o a l q ihl ihq=>
  intro s F hw;obtain⟨h3,x,y,hsig,h1,h0⟩:=hw.parts;have p1:=ihl x F h1;have p2:=ihq y (exA lens fl alive vs l F).2 h0
  by_cases t0:a.tag=0
  ·rw[aBA t0];have hb:=h3.val (.inl t0);exact OkL.one (bV.one ⟨Oa,Oa⟩)
  by_cases t1:a.tag=1
  ·rw[aB9 t1];exact OkL.one (h2 _)
  by_cases t2:a.tag=2
  ·rw[zT t2];exact OkL.one bV.all
  by_cases t3:a.tag=3
  ·rw[xE t3];exact OkL.one bV.all
  by_cases t4:a.tag=4\/a.tag=20
  ·rw[zS t4];exact p1
  by_cases t5:a.tag=5
  ·rw[aB8 t5];exact OkL.one p1.hd.neg
  by_cases t6:a.tag=6
  ·by_cases o1:a.op=27
   ·rw[tR t6 o1];exact OkL.one (p1.hd.plus p2.hd)
   by_cases o2:a.op=28
   ·rw[tS t6 o2];exact OkL.one (p1.hd.minus p2.hd)
   by_cases o3:a.op=29
   ·rw[tQ t6 o3];exact OkL.one (p1.hd.times p2.hd)
   ·rw[qH t6 ⟨o1,o2,o3⟩];refine OkL.one ?_
    split
    ·exact p1.hd.over p2.hd
    ·exact bV.rest p2.hd
  by_cases t15:a.tag=15
  ·rw[wM t15];intro z hz;rcases List.mem_append.1 hz with h|h
   ·exact p1 z h
   ·exact p2 z h
  ·rw[aGN ⟨Oa,t15,Oa⟩];intro r h;cases h
theorem wO:∀ (t:Tr) (s:St) (F:Fl),Ws 1 t->OkS s->OkS (cdA lens fl t s F).1/\OkS (cdA lens fl t s F).2.1:=by
 intro t
 induction t with
 |nil=>intro s F hw _;exact absurd hw (by simp[Ws,bK])
 |node b o a l q ihl ihq=>
  intro s F hw hs;obtain⟨hok,x,y,h0,h3,h1⟩:=hw.parts;unfold cdA
  by_cases t7:a.tag=7
  ·rw[if_pos t7];exact⟨bF6 hs _ _ _,bF6 hs _ _ _⟩
  ·rw[if_neg t7];have h2:x=1/\y=1:=by simp[sig,t7]at h0;omega
   obtain⟨rfl,rfl⟩:=h2;have e1:=ihl s F h3 hs
   split
   ·have e2:=ihq _ (cdA lens fl l s F).2.2 h1 e1.1;exact⟨e2.1,nP e1.2 e2.2⟩
   ·have e2:=ihq _ (cdA lens fl l s F).2.2 h1 e1.2;exact⟨nP e1.1 e2.1,e2.2⟩
structure CdS(Fg:Fl)(x:St × St × Fl)(y:Bool × Rn)(vars:Nat->Int):Prop where
 si:SI Fg y.2
 yes:y.2.fin=0->y.1=true->InS x.1 vars
 no:y.2.fin=0->y.1=false->InS x.2.1 vars
end
section
open Go.RowKit Go.Lib Go.Deep
variable {lens:Nat->Int} {fl:List Tr} {C:Cl} {Fg:Fl}
theorem qT{b o:Nat}{a:Nd}{l q:Tr}{s:St}{F:Fl}(ht:a.tag=20\/a.tag=18):stA lens fl (.node b o a l q) s F=stA lens fl l s F:=by
 conv=>lhs;unfold stA
 rw[if_pos ht]
theorem sY{b o:Nat}{a:Nd}{l q:Tr}{s:St}{F:Fl}(ht:a.tag=15):stA lens fl (.node b o a l q) s F=stA lens fl q (stA lens fl l s F).1 (stA lens fl l s F).2:=by
 conv=>lhs;unfold stA
 rw[Oh,if_pos ht]
theorem yF{b o:Nat}{a:Nd}{l q:Tr}{s:St}{F:Fl}(ht:a.tag=9):stA lens fl (.node b o a l q) s F=(s.map fun vs=>oT vs a.which.toNat (hdR (exA lens fl s.isSome (cC s) l F).1),(exA lens fl s.isSome (cC s) l F).2):=by
 conv=>lhs;unfold stA
 rw[Oh,Oh,if_pos ht]
theorem tD{b o:Nat}{a:Nd}{l q:Tr}{s:St}{F:Fl}(ht:a.tag=10):stA lens fl (.node b o a l q) s F=(s,(exA lens fl s.isSome (cC s) q (iD (exA lens fl s.isSome (cC s) l F).2 a.site ((decide (0<=(hdR (exA lens fl s.isSome (cC s) l F).1).1)&&decide ((hdR (exA lens fl s.isSome (cC s) l F).1).2 < lens a.which.toNat))||!s.isSome))).2):=by
 conv=>lhs;unfold stA
 rw[Oh,Oh,Oh,if_pos ht]
theorem aUW{b o:Nat}{a:Nd}{l x y:Tr}{b2 o2:Nat}{z:Nd}{s:St}{F:Fl}(ht:a.tag=11):stA lens fl (.node b o a l (.node b2 o2 z x y)) s F=(lF (stA lens fl x (cdA lens fl l s F).1 (cdA lens fl l s F).2.2).1 (stA lens fl y (cdA lens fl l s F).2.1 (stA lens fl x (cdA lens fl l s F).1 (cdA lens fl l s F).2.2).2).1,(stA lens fl y (cdA lens fl l s F).2.1 (stA lens fl x (cdA lens fl l s F).1 (cdA lens fl l s F).2.2).2).2):=by
 conv=>lhs;unfold stA
 rw[Oh,Oh,Oh,Oh,if_pos ht]
theorem xM{b o:Nat}{a:Nd}{l:Tr}{s:St}{F:Fl}(ht:a.tag=11):stA lens fl (.node b o a l .nil) s F=(s,F):=by
 conv=>lhs;unfold stA
 rw[Oh,Oh,Oh,Oh,if_pos ht]
theorem aUV{b o:Nat}{a:Nd}{l q:Tr}{s:St}{F:Fl}(ht:a.tag=12):stA lens fl (.node b o a l q) s F=whA (dR q) (cdA lens fl l) (stA lens fl q) 4 1 s F:=by
 conv=>lhs;unfold stA
 rw[Oh,Oh,Oh,Oh,Oh,if_pos ht]
theorem aUU{b o:Nat}{a:Nd}{l q:Tr}{s:St}{F:Fl}(ht:a.tag=13):stA lens fl (.node b o a l q) s F=(none,(exA lens fl s.isSome (cC s) l F).2):=by
 conv=>lhs;unfold stA
 rw[Oh,Oh,Oh,Oh,Oh,Oh,if_pos ht]
theorem sZ{b o:Nat}{a:Nd}{l q:Tr}{s:St}{F:Fl}(ht:a.tag=14):stA lens fl (.node b o a l q) s F=(s,(exA lens fl s.isSome (cC s) l F).2):=by
 conv=>lhs;unfold stA
 rw[Oh,Oh,Oh,Oh,Oh,Oh,Oh,if_pos ht]
theorem aBR{b o:Nat}{a:Nd}{l q:Tr}{s:St}{F:Fl}(ht:a.tag≠20/\a.tag≠18/\a.tag≠15/\¬(9<=a.tag/\a.tag<=14)):stA lens fl (.node b o a l q) s F=(s,F):=by
 conv=>lhs;unfold stA
 rw[Oh,Oh,Oh,Oh,Oh,Oh,Oh,Oh]
theorem mP{k:Int}:∀ (n:Nat) (t:Tr),szT t<=n->∀ (s:St) (F:Fl),k ∉ bEK t->(stA lens fl t s F).2 k=F k:=by
 intro n
 induction n with
 |zero=>intro t h;cases t<;>simp[szT]at h
 |succ n ih=>
  intro t h1 s F h;cases t with
  |nil=>rfl
  |node b o a l q=>
   have hl:szT l<=n/\szT q<=n:=by simp only[szT]at h1;omega
   obtain⟨h0,kl,kq⟩:=rW h
   by_cases t20:a.tag=20\/a.tag=18
   ·rw[qT t20];exact ih l hl.1 s F kl
   by_cases t15:a.tag=15
   ·rw[sY t15];exact(ih q hl.2 _ _ kq).trans (ih l hl.1 s F kl)
   by_cases t9:a.tag=9
   ·rw[yF t9];exact gS l F kl
   by_cases t10:a.tag=10
   ·rw[tD t10];exact(gS q _ kq).trans ((kU _ _ (h0 (by simp[dM,t10]))).trans (gS l F kl))
   by_cases t11:a.tag=11
   ·cases q with
    |nil=>rw[xM t11]
    |node b2 o2 z x y=>
     obtain⟨_,kx,ky⟩:=rW kq;have hs:szT x<=n/\szT y<=n:=by have:=hl.2;simp only[szT]at this;omega
     rw[aUW t11];exact(ih y hs.2 _ _ ky).trans ((ih x hs.1 _ _ kx).trans (sI l s F kl))
   by_cases t12:a.tag=12
   ·rw[aUV t12];exact aIM (fun s F=>sI l s F kl) (fun s F=>ih q hl.2 s F kq) _ _ _ _
   by_cases t13:a.tag=13
   ·rw[aUU t13];exact gS l F kl
   by_cases t14:a.tag=14
   ·rw[sZ t14];exact gS l F kl
   ·rw[aBR Oa]
theorem yE{s x y n:Nat}(hs:s=2\/s=4\/s=14)(h:sig s n=some (x,y)):(n=20/\x=14/\y=99)\/(n=15/\x=2/\y=14)\/(n=9/\x=0/\y=99)\/(n=10/\x=0/\y=0)\/(n=11/\x=1/\y=9)\/(n=12/\x=1/\y=4)\/((n=13\/n=14)/\x=0/\y=99):=by
 unfold sig at h;rcases hs with rfl|rfl|rfl
 ·simp at h
  repeat' split at h
  all_goals simp at h
  all_goals omega
 ·simp at h;omega
 ·simp at h;omega
theorem zD{q:Tr}(h:Ws 9 q):∃ b o z x y,q= .node b o z x y/\z.tag=18/\Ws 4 x/\Ws 4 y:=by
 cases q with
 |nil=>exact absurd h (by simp[Ws,bK])
 |node b o z x y=>
  obtain⟨_,u,v,h0,hx,hy⟩:=h.parts
  have:z.tag=18/\u=4/\v=4:=by
   unfold sig at h0;simp at h0;omega
  obtain⟨ht,rfl,rfl⟩:=this;exact⟨b,o,z,x,y,rfl,ht,hx,hy⟩
theorem vN{m:Nat->Bool}{vs after:Vr}(h:∀ i,bV (vs i)):∀ i,bV (eJ m vs after i):=fun i=>by
 unfold eJ
 split
 ·exact(h i).widen
 ·exact h i
theorem aGJ{m:Nat->Bool}{vs:Vr}(h:∀ i,bV (vs i)):∀ i,bV (gL m vs i):=fun i=>by
 unfold gL
 split
 ·exact bV.all
 ·exact h i
theorem aAT{m:Nat->Bool}{vs after:Vr}{k:Nat}(h:∀ i,bV (vs i)):OkS (some (if k=3 then gL m (eJ m vs after)else eJ m vs after)):=by
 refine OkS.some ?_
 split
 ·exact aGJ (vN h)
 ·exact vN h
theorem aS4{m:Nat->Bool}{c:St->Fl->St × St × Fl}{f:St->Fl->St × Fl}(hc:∀ s F,OkS s->OkS (c s F).1/\OkS (c s F).2.1)(_hf:∀ s F,OkS s->OkS (f s F).1):∀ (n round:Nat) (s:St) (F:Fl),OkS s->OkS (whA m c f n round s F).1:=by
 intro n
 induction n with
 |zero=>intro round s F h;exact h
 |succ n ih=>
  intro round s F h;unfold whA;dsimp only;cases s with
  |none=>exact(hc _ _ h).2
  |some vs=>
   cases(f (c (some vs) F).1 (c (some vs) F).2.2).1 with
   |none=>exact(hc _ _ h).2
   |some after=>
    dsimp only
    split
    ·exact ih _ _ _ (aAT (h vs rfl))
    ·exact(hc _ _ h).2
theorem aFO:∀ (n:Nat) (t:Tr),szT t<=n->∀ (s0:Nat) (s:St) (F:Fl),s0=2\/s0=4\/s0=14->Ws s0 t->OkS s->OkS (stA lens fl t s F).1:=by
 intro n
 induction n with
 |zero=>intro t h;cases t<;>simp[szT]at h
 |succ n ih=>
  intro t h6 s0 s F hs hw h;cases t with
  |nil=>exact h
  |node b o a l q=>
   have hl:szT l<=n/\szT q<=n:=by simp only[szT]at h6;omega
   obtain⟨_,x,y,h2,h0,h1⟩:=hw.parts;rcases yE hs h2 with⟨ht,rfl,rfl⟩|⟨ht,rfl,rfl⟩|⟨ht,rfl,rfl⟩|⟨ht,rfl,rfl⟩|⟨ht,rfl,rfl⟩|⟨ht,rfl,rfl⟩|⟨ht|ht,rfl,rfl⟩
   ·rw[qT (.inl ht)];exact ih l hl.1 14 s F Oa h0 h
   ·rw[sY ht];exact ih q hl.2 14 _ _ Oa h1 (ih l hl.1 2 s F Oa h0 h)
   ·rw[yF ht];cases s with
    |none=>exact OkS.none
    |some vs=>exact OkS.upd (h vs rfl) _ (wK (h vs rfl) l 0 F h0).hd
   ·rw[tD ht];exact h
   ·obtain⟨b2,o2,z,u,v,rfl,hz,h5,h4⟩:=zD h1;have h3:szT u<=n/\szT v<=n:=by have:=hl.2;simp only[szT]at this;omega
    rw[aUW ht];have hc:=wO (lens:=lens) (fl:=fl) l s F h0 h;exact nP (ih u h3.1 4 _ _ Oa h5 hc.1) (ih v h3.2 4 _ _ Oa h4 hc.2)
   ·rw[aUV ht];exact aS4 (fun s F h=>wO l s F h0 h) (fun s F h=>ih q hl.2 4 s F Oa h1 h) _ _ _ _ h
   ·rw[aUU ht];exact OkS.none
   ·rw[sZ ht];exact h
theorem Gr.live{u v:Rn}(g:Gr u v)(h:v.fin=0):u.fin=0:=by
 by_cases h0:u.fin=0
 ·exact h0
 ·rw[(g.dead h0).1]at h;exact absurd h h0
structure StP(Fg:Fl)(s:St)(m:Fm):Prop where
 num:∀ i,i64 (m.vars i)
 val:i64 m.value
 si:SI Fg m.run
 on:m.run.fin=0->InS s m.vars
structure StS(Fg:Fl)(s:St)(m:Fm):Prop where
 num:∀ i,i64 (m.vars i)
 val:i64 m.value
 si:SI Fg m.run
 on:m.run.fin=0->m.on=true->InS s m.vars
theorem StP.run{s:St}{m:Fm}(h:StP Fg s m){r:Rn}(hr:SI Fg r){s2:St}(h0:r.fin=0->InS s2 m.vars):StP Fg s2 {m with run:=r}:=⟨h.num,h.val,hr,h0⟩
end
section
open Go.RowKit Go.Lib Go.Deep
variable {lens:Nat->Int} {fl:List Tr} {Fg:Fl} {vars:Nat->Int}
structure FnS(par:Nat->Option Nat)(na:Nat)(lens:Nat->Int)(fl:List Tr)(Fg:Fl)(e:Tr):Prop where
 wb:Ws 4 (bG e)
 ww:Ws 5 (aU e)
 vb:Vd par na 12 (bG e)
 vw:Vd par na 12 (aU e)
 so:tZ fl (bG e)
 nd:(bEK (bG e)).Nodup
 ag:∃ F,∀ k∈bEK (bG e),Fg k=(stA lens fl (bG e) (eN (aU e) (nW (gJ e))) F).2 k
theorem SI.calls{r:Rn}(h:SI Fg r)(n:Nat):SI Fg {r with calls:=n}:=⟨h.arr,h.sd,h.no⟩
end
section
open Go.RowKit Go.Lib Go.Deep Go.ChangeMaps Go.MapKept
variable {F0:List Tr} {lens:Nat->Int} {fl:List Tr}
theorem aMH(t:Tr):∀ S:Sl,S.length<=(siR F0 t S).length:=by
 have h0:∀ (a:Nd) (S:Sl),S.length<=(bO F0 a S).length:=fun a S=>by
  unfold bO
  split
  ·simp
  split
  ·simp
  split
  ·split
   ·simp
   ·exact Qc _
  ·exact Qc _
 have h1:∀ (a:Nd) (S:Sl),S.length<=(dE a S).length:=fun a S=>by
  unfold dE
  split
  ·split
   ·simp
   ·exact Qc _
  ·exact Qc _
 induction t with
 |nil=>intro S;exact Qc _
 |node b o a l r ihl ihr=>intro S;exact Qd (Qd (h0 a S) (ihl _)) (Qd (h1 a _) (ihr _))
theorem aDN:∀ (t:Tr) (s:Nat) (S:Sl),Ws s t->(bEK (siT F0 t S)).Nodup/\∀ k∈bEK (siT F0 t S),(S.length:Int)<=k/\k < ((siR F0 t S).length:Int):=by
 intro t
 induction t with
 |nil=>intro s S _;exact⟨List.nodup_nil,fun _ h=>by cases h⟩
 |node b o a l r ihl ihr=>
  intro s S hw;obtain⟨h5,x,y,hsig,h4,h1⟩:=hw.parts;obtain⟨l1,l2⟩:=ihl x (bO F0 a S) h4;obtain⟨r1,r2⟩:=ihr y (dE a (siR F0 l (bO F0 a S))) h1;have gl:=aMH (F0:=F0) l (bO F0 a S);have gr:=aMH (F0:=F0) r (dE a (siR F0 l (bO F0 a S)));have eR:siR F0 (.node b o a l r) S=siR F0 r (dE a (siR F0 l (bO F0 a S))):=rfl;have eT:bEK (siT F0 (.node b o a l r) S)=(if dM {a with site:=gI F0 a S (siR F0 l (bO F0 a S))}then[gI F0 a S (siR F0 l (bO F0 a S))]else[])++(bEK (siT F0 l (bO F0 a S))++bEK (siT F0 r (dE a (siR F0 l (bO F0 a S))))):=rfl;rw[eR,eT];generalize siR F0 l (bO F0 a S)=S1 at*
  have key:(dM {a with site:=gI F0 a S S1}=true->(gI F0 a S S1=S.length/\(bO F0 a S).length=S.length+1/\(dE a S1).length=S1.length)\/(gI F0 a S S1=S1.length/\(bO F0 a S).length=S.length/\(dE a S1).length=S1.length+1))/\S.length<=(bO F0 a S).length/\S1.length<=(dE a S1).length:=by
   by_cases h2:a.tag=2
   ·have e1:gI F0 a S S1=S.length:=by unfold gI;rw[if_pos (.inl h2)]
    have e2:bO F0 a S=S++[(1,a.npos)]:=by unfold bO;rw[if_pos h2]
    have e3:dE a S1=S1:=by unfold dE;rw[Oh]
    rw[e1,e2,e3];exact⟨fun _=> .inl ⟨rfl,Od,rfl⟩,Od,Qc _⟩
   by_cases h0:a.tag=10
   ·have e1:gI F0 a S S1=S.length:=by unfold gI;rw[if_pos (.inr h0)]
    have e2:bO F0 a S=S++[(2,a.npos)]:=by unfold bO;rw[if_neg h2,if_pos h0]
    have e3:dE a S1=S1:=by unfold dE;rw[Oh]
    rw[e1,e2,e3];exact⟨fun _=> .inl ⟨rfl,Od,rfl⟩,Od,Qc _⟩
   by_cases h3:a.tag=3
   ·have e1:gI F0 a S S1=if 0 < mG F0 a.which then(S.length:Int)else -1:=by unfold gI;rw[Oh,if_pos h3]
    have e2:bO F0 a S=if 0 < mG F0 a.which then S++[(4,a.npos)]else S:=by unfold bO;rw[if_neg h2,if_neg h0,if_pos h3]
    have e3:dE a S1=S1:=by unfold dE;rw[Oh]
    rw[e1,e2,e3]
    by_cases hn:0 < mG F0 a.which
    ·rw[if_pos hn,if_pos hn];exact⟨fun _=> .inl ⟨rfl,Od,rfl⟩,Od,Qc _⟩
    ·rw[if_neg hn,if_neg hn];refine⟨fun h=>?_,Qc _,Qc _⟩;simp[dM,h3]at h
   by_cases h6:a.tag=6
   ·have e1:gI F0 a S S1=if vD a then(S1.length:Int)else -1:=by unfold gI;rw[Oh,if_neg h3,if_pos h6]
    have e2:bO F0 a S=S:=by unfold bO;rw[if_neg h2,if_neg h0,if_neg h3]
    have e3:dE a S1=if vD a then S1++[(3,a.pos)]else S1:=by unfold dE;rw[if_pos h6]
    rw[e1,e2,e3];have ho:=h5.op6 h6
    by_cases hd:vD a=true
    ·rw[if_pos hd,if_pos hd];exact⟨fun _=> .inr ⟨rfl,rfl,Od⟩,Qc _,Od⟩
    ·rw[if_neg hd,if_neg hd];refine⟨fun h=>?_,Qc _,Qc _⟩;exfalso;simp[vD]at hd;simp[dM,h6]at h;omega
   ·have e2:bO F0 a S=S:=by unfold bO;rw[if_neg h2,if_neg h0,if_neg h3]
    have e3:dE a S1=S1:=by unfold dE;rw[if_neg h6]
    rw[e2,e3];refine⟨fun h=>?_,Qc _,Qc _⟩;simp[dM,h2,h0,h3,h6]at h
  obtain⟨k1,k2,k3⟩:=key;refine⟨?_,fun k hk=>?_⟩
  ·rw[List.nodup_append];refine⟨?_,?_,fun u hu v hv e=>?_⟩
   ·split
    ·simp
    ·exact List.nodup_nil
   ·rw[List.nodup_append];refine⟨l1,r1,fun u hu v hv e=>?_⟩;have:=l2 u hu;have:=r2 v hv;omega
   ·split at hu
    ·rename_i ho;rw[List.mem_singleton]at hu;rcases List.mem_append.1 hv with hv|hv
     ·have:=l2 v hv;rcases k1 ho with h|h<;>omega
     ·have:=r2 v hv;rcases k1 ho with h|h<;>omega
    ·cases hu
  ·rcases List.mem_append.1 hk with hk|hk
   ·split at hk
    ·rename_i ho;rw[List.mem_singleton]at hk;rcases k1 ho with h|h<;>omega
    ·cases hk
   ·rcases List.mem_append.1 hk with hk|hk
    ·have:=l2 k hk;omega
    ·have:=r2 k hk;omega
theorem yW(k:Nat):∀ L:Tr,(bEK L).Nodup->(aF k L).Pairwise (fun a b=>∀ j∈bEK a,j ∉ bEK b)/\∀ e∈aF k L,(bEK e).Nodup/\∀ j∈bEK e,j∈bEK L:=by
 intro L
 induction L with
 |nil=>intro _;exact⟨.nil,fun _ h=>by cases h⟩
 |node b o a x r _ ih=>
  intro h;obtain⟨nx,nr,nxr,_⟩:=fU h;obtain⟨i1,i2⟩:=ih nr
  by_cases hk:bN x=k
  ·rw[show aF k (.node b o a x r)=x::aF k r from if_pos hk];refine⟨List.pairwise_cons.2 ⟨fun e he j hj h0=>nxr j hj ((i2 e he).2 j h0),i1⟩,fun e he=>?_⟩;rcases List.mem_cons.1 he with rfl|he
   ·exact⟨nx,fun j hj=>fR hj⟩
   ·exact⟨(i2 e he).1,fun j hj=>gK ((i2 e he).2 j hj)⟩
  ·rw[show aF k (.node b o a x r)=aF k r from if_neg hk];exact⟨i1,fun e he=>⟨(i2 e he).1,fun j hj=>gK ((i2 e he).2 j hj)⟩⟩
theorem tW(e:Tr):∀ j∈bEK (bG e),j∈bEK e:=by
 intro j hj;cases e with
 |nil=>exact hj
 |node b o a l r=>
  cases r with
  |nil=>cases hj
  |node x y z p q=>exact gK (gK hj)
theorem aGV{e:Tr}(h:(bEK e).Nodup):(bEK (bG e)).Nodup:=by
 cases e with
 |nil=>exact h
 |node b o a l r=>
  cases r with
  |nil=>exact List.nodup_nil
  |node x y z p q=>exact(fU (fU h).2.1).2.1
theorem aKE{e:Tr}{F:Fl}{k:Int}(h:k ∉ bEK (bG e)):fnA lens fl e F k=F k:=mP _ _ Ol _ _ h
theorem aGK{k:Int}:∀ (L:List Tr) (F:Fl),(∀ e∈L,k ∉ bEK (bG e))->(L.foldl (fun F e=>fnA lens fl e F) F) k=F k:=by
 intro L
 induction L with
 |nil=>intro F _;rfl
 |cons x L ih=>
  intro F h;rw[List.foldl_cons,ih _ (fun e he=>h e (Ql _ he)),aKE (h x (Qj ..))]
theorem aKD:∀ (L:List Tr) (F:Fl),L.Pairwise (fun a b=>∀ j∈bEK a,j ∉ bEK b)->∀ e∈L,∃ F1,∀ k∈bEK (bG e),(L.foldl (fun F e=>fnA lens fl e F) F) k=fnA lens fl e F1 k:=by
 intro L
 induction L with
 |nil=>intro F _ e h;cases h
 |cons x L ih=>
  intro F hp e he;obtain⟨h1,h2⟩:=List.pairwise_cons.1 hp;rw[List.foldl_cons];rcases List.mem_cons.1 he with rfl|he
  ·exact⟨F,fun k hk=>aGK L _ (fun u hu h0=>h1 u hu k (tW _ _ hk) (tW _ _ h0))⟩
  ·exact ih _ h2 e he
theorem aJO{p:Tr}(hw:Ws 5 p)(h:aD p=0)(vars:Nat->Int):tkW vars p=true:=by
 rcases hw.lst (.inr Ow)with rfl|⟨b,o,a,l,rfl,h20,hl⟩
 ·rfl
 ·cases l with
  |nil=>
   unfold tkW;rw[if_pos h20];rfl
  |node b2 o2 a2 l2 q2=>exact absurd (show aO q2+1=0 from h) Oa
theorem aTS{fl':List Tr}(hw:∀ k:Int,Ws 5 (aU (fl'.getD k.toNat .nil)))(hn:∀ k:Int,mG F0 k=0->aD (aU (fl'.getD k.toNat .nil))=0):∀ (t:Tr) (S:Sl),tZ fl' (siT F0 t S):=by
 intro t
 induction t with
 |nil=>intro S;trivial
 |node b o a l r ihl ihr=>
  intro S;refine⟨ihl _,ihr _,fun h3 hs vars=>aJO (hw _) ?_ vars,fun _=>hw _⟩;apply hn;have h3:a.tag=3:=h3;have hs:gI F0 a S (siR F0 l (bO F0 a S))= -1:=hs;unfold gI at hs;rw[Oh,if_pos h3]at hs
  by_cases h0:0 < mG F0 a.which
  ·rw[if_pos h0]at hs;omega
  ·show mG F0 a.which=0;omega
end
end Go.Proofs.YtikffmloeifkpaaGreatDoor
