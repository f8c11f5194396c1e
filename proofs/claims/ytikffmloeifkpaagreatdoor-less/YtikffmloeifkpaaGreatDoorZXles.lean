/- Contracts. -/
import Derived.Test.YtikffmloeifkpaaGreatDoorZXgrw
namespace Go.Proofs.YtikffmloeifkpaaGreatDoor
open Go.RowKit Go.Lib Go.Deep
def up(k:Nat)(r:Rn):Rn:={r with fuel:=r.fuel+k}
structure Sp(s b:Rn):Prop where
 fin:s.fin=3
 outs:s.outs <+:b.outs
theorem Sp.gr{s b s' b':Rn}(h:Sp s b)(g:Gr s s')(g':Gr b b'):Sp s' b':=by
 obtain⟨e1,e2⟩:=g.dead (by rw[h.fin];decide);exact⟨e1.trans h.fin,by rw[e2];exact h.outs.trans g'.outs⟩
def LX{α:Type}(k:Nat)(x y:α × Rn):Prop:=y=(x.1,up k x.2)\/Sp x.2 y.2
def upM(k:Nat)(m:Fm):Fm:={m with run:=up k m.run}
def LM(k:Nat)(m m':Fm):Prop:=m'=upM k m\/Sp m.run m'.run
variable {k:Nat} {lens:Nat->Int} {Cs Cb:Cl} {vars:Nat->Int} {d:Nat}
theorem bDD(r:Rn)(e:Int):(up k r).stop e=up k (r.stop e):=by
 unfold Rn.stop
 by_cases h:r.fin=0
 ·rw[if_pos h,if_pos (show(up k r).fin=0 from h)];rfl
 ·rw[if_neg h,if_neg (show ¬(up k r).fin=0 from h)]
theorem bD3(r:Rn)(s:Int):(up k r).trap s=up k (r.trap s):=by
 unfold Rn.trap
 by_cases h:r.fin=0
 ·rw[if_pos h,if_pos (show(up k r).fin=0 from h)];rfl
 ·rw[if_neg h,if_neg (show ¬(up k r).fin=0 from h)]
theorem bDI(r:Rn)(v:Int):(up k r).out v=up k (r.out v):=by
 unfold Rn.out
 by_cases h:r.fin=0
 ·rw[if_pos h,if_pos (show(up k r).fin=0 from h)];rfl
 ·rw[if_neg h,if_neg (show ¬(up k r).fin=0 from h)]
theorem bD5(r:Rn):((up k r).burns=r.burns/\(up k r).burn=up k r.burn)\/(r.burns=false/\Sp r.burn (up k r)):=by
 by_cases hf:r.fin=0
 ·by_cases h:r.fuel=0
  ·refine .inr ⟨by unfold Rn.burns;simp[h],?_⟩;have e:r.burn={r with fin:=3}:=by unfold Rn.burn Rn.stop;rw[if_pos h,if_pos hf]
   rw[e];exact⟨rfl,List.prefix_refl _⟩
  ·have h':(up k r).fuel≠0:=by show r.fuel+k≠0;omega
   refine .inl ⟨by unfold Rn.burns;rw[show(up k r).fin=r.fin from rfl];simp[h,h'],?_⟩;unfold Rn.burn;rw[if_neg h,if_neg h',if_pos hf,if_pos (show(up k r).fin=0 from hf)];unfold up;simp only[Rn.mk.injEq,and_self,true_and,and_true];omega
 ·have hb:∀ q:Rn,q.fin≠0->q.burns=false/\q.burn=q:=fun q hq=>by
   refine⟨by unfold Rn.burns;simp[hq],?_⟩;unfold Rn.burn Rn.stop;rw[if_neg hq,if_neg hq]
   split<;>rfl
  exact .inl ⟨by rw[(hb r hf).1,(hb (up k r) hf).1],by rw[(hb r hf).2,(hb (up k r) hf).2]⟩
def CL(k d:Nat)(Cs Cb:Cl):Prop:=∀ j l s r,r.fuel<=d->LX k (Cs j l s r) (Cb j l s (up k r))
theorem bD8(hs:CGr Cs)(hb:CGr Cb)(hC:CL k d Cs Cb):∀ (t:Tr) (r:Rn),r.fuel<=d->LX k (exW lens Cs vars t r) (exW lens Cb vars t (up k r)):=by
 intro t
 induction t with
 |nil=>intro r _;exact .inl rfl
 |node b o a l q ihl ihq=>
  intro r hr;have gs:=bCP (lens:=lens) (vars:=vars) hs l r;have L:=ihl r hr;have gqs:=bCP (lens:=lens) (vars:=vars) hs q (exW lens Cs vars l r).2;have gqb:=bCP (lens:=lens) (vars:=vars) hb q (exW lens Cb vars l (up k r)).2;have Q:=ihq (exW lens Cs vars l r).2 (Nat.le_trans gs.fuel hr);have h0:=fun j (ls:List Int) s=>hC j ls s (exW lens Cs vars l r).2 (Nat.le_trans gs.fuel hr);unfold exW;generalize exW lens Cs vars l r=x at*;generalize exW lens Cb vars l (up k r)=y at*
  split
  ·exact .inl rfl
  split
  ·exact .inl rfl
  split
  ·rcases L with rfl|L
   ·dsimp only
    split
    ·exact .inl rfl
    ·rw[bD3];exact .inl rfl
   ·refine .inr (L.gr ?_ ?_)
    ·split
     ·exact Gr.refl _
     ·exact Gr.trap _ _
    ·split
     ·exact Gr.refl _
     ·exact Gr.trap _ _
  split
  ·rcases L with rfl|L
   ·rcases h0 a.which x.1 a.site with e|e
    ·refine .inl ?_;show([(Cb a.which x.1 a.site (up k x.2)).1],(Cb a.which x.1 a.site (up k x.2)).2)=_;rw[e]
    ·exact .inr e
   ·exact .inr (L.gr (hs _ _ _ _) (hb _ _ _ _))
  split
  ·exact L
  split
  ·rcases L with rfl|L
   ·exact .inl rfl
   ·exact .inr L
  split
  ·rcases L with rfl|L
   ·dsimp only at Q ⊢;generalize exW lens Cs vars q x.2=x2 at*;generalize exW lens Cb vars q (up k x.2)=y2 at*;rcases Q with rfl|Q
    ·dsimp only
     split
     ·rw[bD3];exact .inl rfl
     ·exact .inl rfl
    ·refine .inr (Q.gr ?_ ?_)
     ·split
      ·exact Gr.trap _ _
      ·exact Gr.refl _
     ·split
      ·exact Gr.trap _ _
      ·exact Gr.refl _
   ·refine .inr (L.gr ?_ ?_)
    ·split
     ·exact gqs.trans (Gr.trap _ _)
     ·exact gqs
    ·split
     ·exact gqb.trans (Gr.trap _ _)
     ·exact gqb
  split
  ·rcases L with rfl|L
   ·dsimp only at Q ⊢;generalize exW lens Cs vars q x.2=x2 at*;generalize exW lens Cb vars q (up k x.2)=y2 at*;rcases Q with rfl|Q
    ·exact .inl rfl
    ·exact .inr Q
   ·exact .inr (L.gr gqs gqb)
  ·exact .inl rfl
theorem bDH(hs:CGr Cs)(hb:CGr Cb)(hC:CL k d Cs Cb):∀ (t:Tr) (r:Rn),r.fuel<=d->LX k (cdW lens Cs vars t r) (cdW lens Cb vars t (up k r)):=by
 intro t
 induction t with
 |nil=>intro r _;exact .inl rfl
 |node b o a l q ihl ihq=>
  intro r hr;unfold cdW
  split
  ·have gs:=bCP (lens:=lens) (vars:=vars) hs l r;have L:=bD8 (lens:=lens) (vars:=vars) hs hb hC l r hr;have gqs:=bCP (lens:=lens) (vars:=vars) hs q (exW lens Cs vars l r).2;have gqb:=bCP (lens:=lens) (vars:=vars) hb q (exW lens Cb vars l (up k r)).2;have Q:=bD8 (lens:=lens) (vars:=vars) hs hb hC q (exW lens Cs vars l r).2 (Nat.le_trans gs.fuel hr);generalize exW lens Cs vars l r=x at*;generalize exW lens Cb vars l (up k r)=y at*;rcases L with rfl|L
   ·dsimp only at Q ⊢;generalize exW lens Cs vars q x.2=x2 at*;generalize exW lens Cb vars q (up k x.2)=y2 at*;rcases Q with rfl|Q
    ·exact .inl rfl
    ·exact .inr Q
   ·exact .inr (L.gr gqs gqb)
  ·have gs:=aCJ (lens:=lens) (vars:=vars) hs l r;have L:=ihl r hr;have gqs:=aCJ (lens:=lens) (vars:=vars) hs q (cdW lens Cs vars l r).2;have gqb:=aCJ (lens:=lens) (vars:=vars) hb q (cdW lens Cb vars l (up k r)).2;have Q:=ihq (cdW lens Cs vars l r).2 (Nat.le_trans gs.fuel hr);generalize cdW lens Cs vars l r=x at*;generalize cdW lens Cb vars l (up k r)=y at*;rcases L with rfl|L
   ·dsimp only
    split
    ·split
     ·exact Q
     ·exact .inl rfl
    ·split
     ·exact .inl rfl
     ·exact Q
   ·split
    ·refine .inr (L.gr ?_ ?_)
     ·split
      ·exact gqs
      ·exact Gr.refl _
     ·split
      ·exact gqb
      ·exact Gr.refl _
    ·refine .inr (L.gr ?_ ?_)
     ·split
      ·exact Gr.refl _
      ·exact gqs
     ·split
      ·exact Gr.refl _
      ·exact gqb
theorem bDE{cs cb:Fm->Bool × Rn}{fs fb:Fm->Fm}(h2:∀ m,Gr m.run (cs m).2)(h3:∀ m,Gr m.run (cb m).2)(h0:∀ m,Gr m.run (fs m).run)(h1:∀ m,Gr m.run (fb m).run)(hc:∀ m,m.run.fuel<=d->LX k (cs m) (cb (upM k m)))(hf:∀ m,m.run.fuel<=d->LM k (fs m) (fb (upM k m))):
 ∀ (n n':Nat) (m:Fm),m.run.fuel<=d->m.run.fuel < n->m.run.fuel+k < n'->LM k (mC cs fs n m) (mC cb fb n' (upM k m)):=by
 intro n
 induction n with
 |zero=>intro n' m _ h;omega
 |succ n ih=>
  intro n' m hd hn hn';obtain⟨n',rfl⟩:∃ j,n'=j+1:=⟨n' - 1,by omega⟩;have gb:=Gr.burn m.run;rcases bD5 (k:=k) m.run with⟨e1,e2⟩|⟨e1,e2⟩
  ·have e1':(upM k m).run.burns=m.run.burns:=e1;have e2':(upM k m).run.burn=up k m.run.burn:=e2;unfold mC;rw[e1',e2'];cases hb:m.run.burns
   ·exact .inl rfl
   ·rw[if_pos rfl,if_pos rfl]
    have hfu:m.run.burn.fuel < m.run.fuel:=by
     unfold Rn.burns at hb;simp only[Bool.and_eq_true,decide_eq_true_eq]at hb;have e:m.run.burn={m.run with fuel:=m.run.fuel - 1}:=by unfold Rn.burn;rw[if_neg hb.1,if_pos hb.2]
     rw[e];show m.run.fuel - 1 < m.run.fuel;omega
    have C:=hc {m with run:=m.run.burn} (by show m.run.burn.fuel<=d;omega);have gc:Gr m.run.burn (cs {m with run:=m.run.burn}).2:=h2 {m with run:=m.run.burn};have C:LX k (cs {m with run:=m.run.burn}) (cb {upM k m with run:=up k m.run.burn}):=C;generalize cs {m with run:=m.run.burn}=x at*;generalize cb {upM k m with run:=up k m.run.burn}=y at*
    have fin:∀ (f:Fm->Fm) (c:Fm->Bool × Rn) (j:Nat) (v:Fm) (z:Bool × Rn),(∀ m,Gr m.run (c m).2)->(∀ m,Gr m.run (f m).run)->Gr z.2 (if z.1 then(if(f {v with run:=z.2}).on then mC c f j (f {v with run:=z.2})else f {v with run:=z.2})else {v with run:=z.2}:Fm).run:=by
     intro f c j v z hc hf
     split
     ·split
      ·exact(hf {v with run:=z.2}).trans (aQL hc hf _ _)
      ·exact hf {v with run:=z.2}
     ·exact Gr.refl _
    rcases C with rfl|C
    ·have F:=hf {m with run:=x.2} (by show x.2.fuel<=d;have:=gc.fuel;omega);have F:LM k (fs {m with run:=x.2}) (fb {upM k m with run:=up k x.2}):=F;have gf:Gr x.2 (fs {m with run:=x.2}).run:=h0 {m with run:=x.2};dsimp only;generalize fs {m with run:=x.2}=v at*;generalize fb {upM k m with run:=up k x.2}=v' at*
     split
     ·rcases F with rfl|F
      ·show LM k _ (if v.on then _ else _)
       split
       ·exact ih n' v (by have:=gf.fuel;have:=gc.fuel;omega) (by have:=gf.fuel;have:=gc.fuel;omega) (by have:=gf.fuel;have:=gc.fuel;omega)
       ·exact .inl rfl
      ·refine .inr (F.gr ?_ ?_)
       ·split
        ·exact aQL h2 h0 _ _
        ·exact Gr.refl _
       ·split
        ·exact aQL h3 h1 _ _
        ·exact Gr.refl _
     ·exact .inl rfl
    ·exact .inr (C.gr (fin fs cs n m x h2 h0) (fin fb cb n' (upM k m) y h3 h1))
  ·have e3:mC cs fs (n+1) m={m with run:=m.run.burn}:=if_neg (by rw[e1];decide);rw[e3];exact .inr (e2.gr (Gr.refl _) (aQL h3 h1 (n'+1) (upM k m)))
theorem bDF(hs:CGr Cs)(hb:CGr Cb)(hC:CL k d Cs Cb):∀ (n:Nat) (t:Tr),szT t<=n->∀ m,m.run.fuel<=d->LM k (stW lens Cs t m) (stW lens Cb t (upM k m)):=by
 intro n
 induction n with
 |zero=>intro t h;cases t<;>simp[szT]at h
 |succ n ih=>
  intro t h1 m hm;cases t with
  |nil=>exact .inl rfl
  |node b o a l q=>
   have hl:szT l<=n/\szT q<=n:=by simp only[szT]at h1;omega
   obtain⟨on,mv,mx,mr⟩:=m;have hm:mr.fuel<=d:=hm;show LM k _ (stW lens Cb (.node b o a l q) ⟨on,mv,mx,up k mr⟩);have E1:=bD8 (lens:=lens) (vars:=mv) hs hb hC l mr hm;have g1s:=bCP (lens:=lens) (vars:=mv) hs l mr;have E2:=bD8 (lens:=lens) (vars:=mv) hs hb hC q (exW lens Cs mv l mr).2 (Nat.le_trans g1s.fuel hm);have g2s:=bCP (lens:=lens) (vars:=mv) hs q (exW lens Cs mv l mr).2;have g2b:=bCP (lens:=lens) (vars:=mv) hb q (exW lens Cb mv l (up k mr)).2;have D1:=bDH (lens:=lens) (vars:=mv) hs hb hC l mr hm;have c1s:=aCJ (lens:=lens) (vars:=mv) hs l mr;unfold stW;dsimp only
   split
   ·exact ih l hl.1 ⟨on,mv,mx,mr⟩ hm
   split
   ·rcases bD5 (k:=k) mr with⟨e1,e2⟩|⟨e1,e2⟩
    ·rw[e1,e2];cases hbu:mr.burns
     ·exact .inl rfl
     ·rw[if_pos rfl,if_pos rfl];have gb:=Gr.burn mr;have S1:=ih l hl.1 ⟨on,mv,mx,mr.burn⟩ (Nat.le_trans gb.fuel hm);have g:=aFN (lens:=lens) hs _ l (Nat.le_refl _) ⟨on,mv,mx,mr.burn⟩;have S1:LM k (stW lens Cs l ⟨on,mv,mx,mr.burn⟩) (stW lens Cb l ⟨on,mv,mx,up k mr.burn⟩):=S1;generalize stW lens Cs l ⟨on,mv,mx,mr.burn⟩=v at*;generalize stW lens Cb l ⟨on,mv,mx,up k mr.burn⟩=v' at*;rcases S1 with rfl|S1
      ·show LM k _ (if v.on then _ else _)
       split
       ·exact ih q hl.2 v (Nat.le_trans g.fuel (Nat.le_trans gb.fuel hm))
       ·exact .inl rfl
      ·refine .inr (S1.gr ?_ ?_)
       ·split
        ·exact aFN hs _ _ (Nat.le_refl _) _
        ·exact Gr.refl _
       ·split
        ·exact aFN hb _ _ (Nat.le_refl _) _
        ·exact Gr.refl _
    ·rw[if_neg (by rw[e1];decide)];refine .inr (e2.gr (Gr.refl _) ?_)
     split
     ·have s1:=aFN (lens:=lens) hb _ l (Nat.le_refl _) ⟨on,mv,mx,(up k mr).burn⟩
      split
      ·exact((Gr.burn _).trans s1).trans (aFN hb _ _ (Nat.le_refl _) _)
      ·exact(Gr.burn _).trans s1
     ·exact Gr.burn _
   generalize exW lens Cs mv l mr=x at*;generalize exW lens Cb mv l (up k mr)=y at*
   split
   ·rcases E1 with rfl|E1
    ·exact .inl rfl
    ·exact .inr E1
   split
   ·rcases E1 with rfl|E1
    ·dsimp only at E2 ⊢;generalize exW lens Cs mv q x.2=x2 at*;generalize exW lens Cb mv q (up k x.2)=y2 at*;rcases E2 with rfl|E2
     ·dsimp only
      split
      ·exact .inl rfl
      ·rw[bD3];exact .inl rfl
     ·refine .inr (E2.gr ?_ ?_)
      ·split
       ·exact Gr.arr _ _
       ·exact Gr.trap _ _
      ·split
       ·exact Gr.arr _ _
       ·exact Gr.trap _ _
    ·refine .inr (E1.gr ?_ ?_)
     ·split
      ·exact g2s.trans (Gr.arr _ _)
      ·exact g2s.trans (Gr.trap _ _)
     ·split
      ·exact g2b.trans (Gr.arr _ _)
      ·exact g2b.trans (Gr.trap _ _)
   split
   ·cases q with
    |nil=>exact .inl rfl
    |node x y z p s=>
     have h0:szT p<=n/\szT s<=n:=by have:=hl.2;simp only[szT]at this;omega
     show LM k (if _ then _ else _) (if _ then _ else _);generalize cdW lens Cs mv l mr=u at*;generalize cdW lens Cb mv l (up k mr)=u' at*;rcases D1 with rfl|D1
     ·dsimp only
      split
      ·exact ih p h0.1 ⟨on,mv,mx,u.2⟩ (Nat.le_trans c1s.fuel hm)
      ·exact ih s h0.2 ⟨on,mv,mx,u.2⟩ (Nat.le_trans c1s.fuel hm)
     ·refine .inr (D1.gr ?_ ?_)
      ·split
       ·exact aFN hs _ _ (Nat.le_refl _) ⟨on,mv,mx,u.2⟩
       ·exact aFN hs _ _ (Nat.le_refl _) ⟨on,mv,mx,u.2⟩
      ·split
       ·exact aFN hb _ _ (Nat.le_refl _) ⟨on,mv,mx,u'.2⟩
       ·exact aFN hb _ _ (Nat.le_refl _) ⟨on,mv,mx,u'.2⟩
   split
   ·exact bDE (d:=d) (fun m=>aCJ (vars:=m.vars) hs l m.run) (fun m=>aCJ (vars:=m.vars) hb l m.run) (fun m=>aFN hs _ q (Nat.le_refl _) m) (fun m=>aFN hb _ q (Nat.le_refl _) m)
     (fun m h=>bDH (vars:=m.vars) hs hb hC l m.run h) (fun m h=>ih q hl.2 m h) _ _ ⟨on,mv,mx,mr⟩ hm (Nat.lt_succ_self _) (Nat.lt_succ_self _)
   split
   ·rcases E1 with rfl|E1
    ·exact .inl rfl
    ·exact .inr E1
   split
   ·rcases E1 with rfl|E1
    ·dsimp only;rw[bDI];exact .inl rfl
    ·exact .inr (E1.gr (Gr.out _ _) (Gr.out _ _))
   ·exact .inl rfl
theorem bDG{Bs Bb:Tr->Fm->Fm}{e:Tr}{r:Rn}(hr:r.fuel<=d)(hb:∀ m,Gr m.run (Bb (bG e) m).run)(hB:∀ m,m.run.fuel+1<=d->LM k (Bs (bG e) m) (Bb (bG e) (upM k m))):LX k (enW Bs e vars r) (enW Bb e vars (up k r)):=by
 have g0:Gr r (if r.calls=60 then r.stop 4 else r):=by
  split
  ·exact Gr.stop _ (.inr rfl)
  ·exact Gr.refl _
 have e0:(if(up k r).calls=60 then(up k r).stop 4 else up k r)=up k (if r.calls=60 then r.stop 4 else r):=by
  show(if r.calls=60 then _ else _)=_
  split
  ·exact bDD _ _
  ·rfl
 unfold enW;dsimp only;rw[e0];generalize (if r.calls=60 then r.stop 4 else r)=r0 at*;have e1:({up k r0 with calls:=(up k r).calls+1}:Rn)=up k {r0 with calls:=r.calls+1}:=rfl;rw[e1];have gf:({r0 with calls:=r.calls+1}:Rn).fuel<=d:=Nat.le_trans g0.fuel hr;generalize ({r0 with calls:=r.calls+1}:Rn)=r1 at*
 have tail:∀ (f:Tr->Fm->Fm) (q:Rn),(∀ m,Gr m.run (f (bG e) m).run)->Gr q (if q.burns=true then((f (bG e) ⟨true,vars,0,q.burn⟩).value,{(f (bG e) ⟨true,vars,0,q.burn⟩).run with calls:=(f (bG e) ⟨true,vars,0,q.burn⟩).run.calls - 1})else(0,{q.burn with calls:=q.burn.calls - 1}):Int × Rn).2:=by
  intro f q hf
  split
  ·exact((Gr.burn q).trans (hf ⟨true,vars,0,q.burn⟩)).trans (Gr.calls _ _)
  ·exact(Gr.burn q).trans (Gr.calls _ _)
 rcases bD5 (k:=k) r1 with⟨b1,b2⟩|⟨b1,b2⟩
 ·rw[b1,b2];cases hbu:r1.burns
  ·exact .inl rfl
  ·rw[if_pos rfl,if_pos rfl]
   have h0:r1.burn.fuel+1<=d:=by
    unfold Rn.burns at hbu;simp only[Bool.and_eq_true,decide_eq_true_eq]at hbu;have e:r1.burn={r1 with fuel:=r1.fuel - 1}:=by unfold Rn.burn;rw[if_neg hbu.1,if_pos hbu.2]
    rw[e];show r1.fuel - 1+1<=d;omega
   have M:=hB ⟨true,vars,0,r1.burn⟩ h0;have M:LM k (Bs (bG e) ⟨true,vars,0,r1.burn⟩) (Bb (bG e) ⟨true,vars,0,up k r1.burn⟩):=M;generalize Bs (bG e) ⟨true,vars,0,r1.burn⟩=v at*;generalize Bb (bG e) ⟨true,vars,0,up k r1.burn⟩=v' at*;rcases M with rfl|M
   ·exact .inl rfl
   ·exact .inr (M.gr (Gr.calls _ _) (Gr.calls _ _))
 ·rw[if_neg (by rw[b1];decide)];exact .inr (b2.gr (Gr.calls _ _) (tail Bb (up k r1) hb))
theorem bDL{fl:List Tr}(hC:∀ d',d=d'+1->CL k d' (clW lens fl d') (clW lens fl (d'+k)))(t:Tr)(m:Fm)(h:m.run.fuel+1<=d):LM k (bdD lens fl d t m) (bdD lens fl (d+k) t (upM k m)):=by
 cases d with
 |zero=>omega
 |succ d=>
  rw[show d+1+k=(d+k)+1 by omega];exact bDF (aOL d) (aOL (d+k)) (hC d rfl) _ t (Nat.le_refl _) m (by omega)
theorem bDK{fl:List Tr}:∀ d,CL k d (clW lens fl d) (clW lens fl (d+k)):=by
 have aIX:∀ d,(∀ d',d=d'+1->CL k d' (clW lens fl d') (clW lens fl (d'+k)))->CL k d (clW lens fl d) (clW lens fl (d+k)):=by
  intro d hC j l s r hr;rw[bDB,bDB]
  have e:(if tkW (cI l) (aU (fl.getD j.toNat .nil))then up k r else(up k r).trap s)=up k (if tkW (cI l) (aU (fl.getD j.toNat .nil))then r else r.trap s):=by
   split
   ·rfl
   ·exact bD3 _ _
  rw[e];refine bDG (d:=d) ?_ (fun m=>bDJ (d+k) _ m) (fun m h=>bDL hC _ m h)
  split
  ·exact hr
  ·exact Nat.le_trans (Gr.trap r s).fuel hr
 intro d
 induction d with
 |zero=>exact aIX 0 (fun d' h=>by omega)
 |succ d ih=>exact aIX (d+1) (fun d' h=>by
   obtain rfl:d=d':=by omega
   exact ih)
theorem bDA(t:Tr)(m:Int)(args:List Int){f f':Int}(h:f'<=f):(aTT t m args f'=aTT t m args f/\1<=(aTT t m args f').fin/\(aTT t m args f').fin<=5)\/((aTT t m args f').fin=3/\(aTT t m args f').outs <+:(aTT t m args f).outs):=by
 unfold aTT;dsimp only
 by_cases hc:args.length≠gJ ((aF 17 (bCF t)).getD m.toNat .nil)\/tkW (cI args) (aU ((aF 17 (bCF t)).getD m.toNat .nil))=false
 ·rw[if_pos hc,if_pos hc];exact .inl ⟨rfl,by decide,by decide⟩
 ·rw[if_neg hc,if_neg hc];generalize (aF 17 (bCF t)).getD m.toNat .nil=e;generalize bCG (aF 16 (bCF t))=lens;generalize aF 17 (bCF t)=fl;obtain⟨n,hn⟩:∃ n,n=(min (max f' 0) 20000).toNat:=⟨_,rfl⟩;obtain⟨k,hk⟩:∃ k,(min (max f 0) 20000).toNat=n+k:=⟨(min (max f 0) 20000).toNat - n,by omega⟩;rw[hk,<-hn]
  have E:=bDG (k:=k) (d:=n+1) (Bs:=stW lens (clW lens fl n)) (Bb:=stW lens (clW lens fl (n+k))) (e:=e) (vars:=cI args) (r:=⟨fun _=>0,n,0,0,-1,[]⟩) (by show n<=n+1;omega)
   (fun m=>aFN (aOL (n+k)) _ _ (Nat.le_refl _) m) (fun m h=>bDF (aOL n) (aOL (n+k)) (bDK n) _ _ (Nat.le_refl _) m (by omega))
  have hG:=aOB (Bd:=stW lens (clW lens fl n)) (e:=e) (fun m=>aFN (aOL n) _ _ (Nat.le_refl _) m) (cI args) ⟨fun _=>0,n,0,0,-1,[]⟩;have hG:=hG.fin;dsimp only at hG;have E:LX k (enW (stW lens (clW lens fl n)) e (cI args) ⟨fun _=>0,n,0,0,-1,[]⟩) (enW (stW lens (clW lens fl (n+k))) e (cI args) ⟨fun _=>0,n+k,0,0,-1,[]⟩):=E;generalize enW (stW lens (clW lens fl n)) e (cI args) ⟨fun _=>0,n,0,0,-1,[]⟩=x at*;generalize enW (stW lens (clW lens fl (n+k))) e (cI args) ⟨fun _=>0,n+k,0,0,-1,[]⟩=y at*;rcases E with rfl|E
  ·refine .inl ⟨?_,?_⟩
   ·show(if x.2.fin=0 then _ else _:Rs4)=if x.2.fin=0 then _ else _
    rfl
   ·split
    ·exact⟨Int.le_refl 1,by show(1:Int)<=5;decide⟩
    ·dsimp only;omega
  ·have h3:=E.fin;refine .inr ?_;rw[if_neg (by rw[h3];decide)];refine⟨h3,?_⟩
   split
   ·exact E.outs
   ·exact E.outs
end Go.Proofs.YtikffmloeifkpaaGreatDoor
