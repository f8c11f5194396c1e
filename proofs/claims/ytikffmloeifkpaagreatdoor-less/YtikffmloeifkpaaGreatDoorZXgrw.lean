/- Contracts. -/
import Derived.Test.YtikffmloeifkpaaGreatDoorL20
namespace Go.Proofs.YtikffmloeifkpaaGreatDoor
open Go.RowKit Go.Lib Go.Deep
structure Gr(r r':Rn):Prop where
 fuel:r'.fuel<=r.fuel
 outs:r.outs <+:r'.outs
 dead:r.fin≠0->r'.fin=r.fin/\r'.outs=r.outs
 fin:r'.fin=r.fin\/r'.fin=2\/r'.fin=3\/r'.fin=4
theorem Gr.refl(r:Rn):Gr r r:=⟨Nat.le_refl _,List.prefix_refl _,fun _=>⟨rfl,rfl⟩,.inl rfl⟩
theorem Gr.trans{a b c:Rn}(h:Gr a b)(k:Gr b c):Gr a c:=by
 refine⟨Nat.le_trans k.fuel h.fuel,h.outs.trans k.outs,fun ha=>?_,?_⟩
 ·obtain⟨e1,e2⟩:=h.dead ha;obtain⟨e3,e4⟩:=k.dead (by rw[e1];exact ha);exact⟨e3.trans e1,e4.trans e2⟩
 ·rcases k.fin with e|e
  ·rw[e];exact h.fin
  ·exact .inr e
theorem Gr.stop(r:Rn){e:Int}(he:e=3\/e=4):Gr r (r.stop e):=by
 unfold Rn.stop
 split
 ·rename_i h;exact⟨Nat.le_refl _,List.prefix_refl _,fun k=>absurd h k,by dsimp only;omega⟩
 ·exact Gr.refl _
theorem Gr.trap(r:Rn)(s:Int):Gr r (r.trap s):=by
 unfold Rn.trap
 split
 ·rename_i h;exact⟨Nat.le_refl _,List.prefix_refl _,fun k=>absurd h k,.inr (.inl rfl)⟩
 ·exact Gr.refl _
theorem Gr.burn(r:Rn):Gr r r.burn:=by
 unfold Rn.burn
 split
 ·exact Gr.stop _ (.inl rfl)
 ·split
  ·exact⟨Nat.sub_le _ _,List.prefix_refl _,fun _=>⟨rfl,rfl⟩,.inl rfl⟩
  ·exact Gr.refl _
theorem Gr.out(r:Rn)(v:Int):Gr r (r.out v):=by
 unfold Rn.out
 split
 ·rename_i h;exact⟨Nat.le_refl _,List.prefix_append _ _,fun k=>absurd h k,.inl rfl⟩
 ·exact Gr.refl _
theorem Gr.arr(r:Rn)(f:Nat->Int):Gr r {r with arr:=f}:=⟨Nat.le_refl _,List.prefix_refl _,fun _=>⟨rfl,rfl⟩,.inl rfl⟩
theorem Gr.calls(r:Rn)(n:Nat):Gr r {r with calls:=n}:=⟨Nat.le_refl _,List.prefix_refl _,fun _=>⟨rfl,rfl⟩,.inl rfl⟩
def CGr(C:Cl):Prop:=∀ k l s r,Gr r (C k l s r).2
variable {lens:Nat->Int} {C:Cl} {vars:Nat->Int}
theorem bCP(hC:CGr C):∀ (t:Tr) (r:Rn),Gr r (exW lens C vars t r).2:=by
 intro t
 induction t with
 |nil=>intro r;exact Gr.refl _
 |node b o a l q ihl ihq=>
  intro r;have h1:=ihl r;have h2:=ihq (exW lens C vars l r).2;unfold exW
  split
  ·exact Gr.refl _
  split
  ·exact Gr.refl _
  split
  ·split
   ·exact h1
   ·exact h1.trans (Gr.trap _ _)
  split
  ·exact h1.trans (hC _ _ _ _)
  split
  ·exact h1
  split
  ·exact h1
  split
  ·split
   ·exact(h1.trans h2).trans (Gr.trap _ _)
   ·exact h1.trans h2
  split
  ·exact h1.trans h2
  ·exact Gr.refl _
theorem aCJ(hC:CGr C):∀ (t:Tr) (r:Rn),Gr r (cdW lens C vars t r).2:=by
 intro t
 induction t with
 |nil=>intro r;exact Gr.refl _
 |node b o a l q ihl ihq=>
  intro r;have h1:=ihl r;have h2:=ihq (cdW lens C vars l r).2;unfold cdW
  split
  ·exact(bCP hC l r).trans (bCP hC q _)
  split
  ·split
   ·exact h1.trans h2
   ·exact h1
  ·split
   ·exact h1
   ·exact h1.trans h2
theorem aQL{c:Fm->Bool × Rn}{f:Fm->Fm}(hc:∀ m,Gr m.run (c m).2)(hf:∀ m,Gr m.run (f m).run):∀ (n:Nat) (m:Fm),Gr m.run (mC c f n m).run:=by
 intro n
 induction n with
 |zero=>intro m;exact Gr.refl _
 |succ n ih=>
  intro m;have h1:=Gr.burn m.run;have h2:=hc {m with run:=m.run.burn};have h3:=hf {m with run:=(c {m with run:=m.run.burn}).2};have h4:=ih (f {m with run:=(c {m with run:=m.run.burn}).2});unfold mC
  split
  ·split
   ·split
    ·exact((h1.trans h2).trans h3).trans h4
    ·exact(h1.trans h2).trans h3
   ·exact h1.trans h2
  ·exact h1
theorem aFN(hC:CGr C):∀ (n:Nat) (t:Tr),szT t<=n->∀ m,Gr m.run (stW lens C t m).run:=by
 intro n
 induction n with
 |zero=>intro t h;cases t<;>simp[szT]at h
 |succ n ih=>
  intro t h0 m;cases t with
  |nil=>exact Gr.refl _
  |node b o a l q=>
   have hl:szT l<=n/\szT q<=n:=by simp only[szT]at h0;omega
   have e1:=bCP (lens:=lens) (vars:=m.vars) hC l m.run;have e2:=bCP (lens:=lens) (vars:=m.vars) hC q (exW lens C m.vars l m.run).2;have c1:=aCJ (lens:=lens) (vars:=m.vars) hC l m.run;have hb:=Gr.burn m.run;have s1:=ih l hl.1 {m with run:=m.run.burn};have s2:=ih q hl.2 (stW lens C l {m with run:=m.run.burn});unfold stW
   split
   ·exact ih l hl.1 m
   split
   ·split
    ·split
     ·exact(hb.trans s1).trans s2
     ·exact hb.trans s1
    ·exact hb
   split
   ·exact e1
   split
   ·split
    ·exact(e1.trans e2).trans (Gr.arr _ _)
    ·exact(e1.trans e2).trans (Gr.trap _ _)
   split
   ·cases q with
    |nil=>exact Gr.refl _
    |node x y z p s=>
     have hs:szT p<=n/\szT s<=n:=by have:=hl.2;simp only[szT]at this;omega
     show Gr m.run (if _ then _ else _:Fm).run
     split
     ·exact c1.trans (ih p hs.1 {m with run:=(cdW lens C m.vars l m.run).2})
     ·exact c1.trans (ih s hs.2 {m with run:=(cdW lens C m.vars l m.run).2})
   split
   ·exact aQL (fun m=>aCJ hC l m.run) (fun m=>ih q hl.2 m) _ m
   split
   ·exact e1
   split
   ·exact e1.trans (Gr.out _ _)
   ·exact Gr.refl _
theorem aOB{Bd:Tr->Fm->Fm}{e:Tr}(hB:∀ m,Gr m.run (Bd (bG e) m).run)(vars:Nat->Int)(r:Rn):Gr r (enW Bd e vars r).2:=by
 have h0:Gr r (if r.calls=60 then r.stop 4 else r):=by
  split
  ·exact Gr.stop _ (.inr rfl)
  ·exact Gr.refl _
 unfold enW;dsimp only;generalize (if r.calls=60 then r.stop 4 else r)=r0 at h0 ⊢;have hb:=(h0.trans (Gr.calls r0 (r.calls+1))).trans (Gr.burn _)
 split
 ·exact(hb.trans (hB ⟨true,vars,0,({r0 with calls:=r.calls+1}:Rn).burn⟩)).trans (Gr.calls _ _)
 ·exact hb.trans (Gr.calls _ _)
def bdD(lens:Nat->Int)(fl:List Tr):Nat->Tr->Fm->Fm
 |0=>fun _ m=>m
 |d+1=>stW lens (clW lens fl d)
theorem bDB{fl:List Tr}(d:Nat)(k:Int)(l:List Int)(s:Int)(r:Rn):clW lens fl d k l s r=enW (bdD lens fl d) (fl.getD k.toNat .nil) (cI l) (if tkW (cI l) (aU (fl.getD k.toNat .nil))then r else r.trap s):=by cases d<;>rfl
theorem aOL{fl:List Tr}:∀ d,CGr (clW lens fl d):=by
 have tr:∀ (c:Bool) (r:Rn) (s:Int),Gr r (if c then r else r.trap s):=by
  intro c r s;cases c
  ·exact Gr.trap _ _
  ·exact Gr.refl _
 intro d
 induction d with
 |zero=>intro k l s r;exact(tr _ r s).trans (aOB (fun m=>Gr.refl _) _ _)
 |succ d ih=>intro k l s r;exact(tr _ r s).trans (aOB (fun m=>aFN ih _ _ (Nat.le_refl _) m) _ _)
theorem bDJ{fl:List Tr}(d:Nat)(t:Tr)(m:Fm):Gr m.run (bdD lens fl d t m).run:=by
 cases d with
 |zero=>exact Gr.refl _
 |succ d=>exact aFN (aOL d) _ _ (Nat.le_refl _) m
end Go.Proofs.YtikffmloeifkpaaGreatDoor
