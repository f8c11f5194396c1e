/- Contracts. -/
import Derived.Test.YtikffmloeifkpaaGreatDoorM32
import Derived.Test.YtikffmloeifkpaaGreatDoorM22
import Derived.Test.YtikffmloeifkpaaGreatDoorM23
namespace Go.Proofs.YtikffmloeifkpaaGreatDoor
open Go.RowKit Go.Lib Go.Deep
variable {lens:Nat->Int} {fl:List Tr} {C:Cl} {Fg:Fl}
theorem qT{b o:Nat}{a:Nd}{l q:Tr}{s:St}{F:Fl}(ht:a.tag=20\/a.tag=18):stA lens fl (.node b o a l q) s F=stA lens fl l s F:=by
 conv=>lhs;unfold stA
 rw[if_pos ht]
theorem sY{b o:Nat}{a:Nd}{l q:Tr}{s:St}{F:Fl}(ht:a.tag=15):stA lens fl (.node b o a l q) s F=stA lens fl q (stA lens fl l s F).1 (stA lens fl l s F).2:=by
 conv=>lhs;unfold stA
 rw[if_neg (by omega),if_pos ht]
theorem yF{b o:Nat}{a:Nd}{l q:Tr}{s:St}{F:Fl}(ht:a.tag=9):stA lens fl (.node b o a l q) s F=(s.map fun vs=>oT vs a.which.toNat (hdR (exA lens fl s.isSome (cC s) l F).1),(exA lens fl s.isSome (cC s) l F).2):=by
 conv=>lhs;unfold stA
 rw[if_neg (by omega),if_neg (by omega),if_pos ht]
theorem tD{b o:Nat}{a:Nd}{l q:Tr}{s:St}{F:Fl}(ht:a.tag=10):stA lens fl (.node b o a l q) s F=(s,(exA lens fl s.isSome (cC s) q (iD (exA lens fl s.isSome (cC s) l F).2 a.site ((decide (0<=(hdR (exA lens fl s.isSome (cC s) l F).1).1)&&decide ((hdR (exA lens fl s.isSome (cC s) l F).1).2 < lens a.which.toNat))||!s.isSome))).2):=by
 conv=>lhs;unfold stA
 rw[if_neg (by omega),if_neg (by omega),if_neg (by omega),if_pos ht]
theorem tC{b o:Nat}{a:Nd}{l x y:Tr}{b2 o2:Nat}{z:Nd}{s:St}{F:Fl}(ht:a.tag=11):stA lens fl (.node b o a l (.node b2 o2 z x y)) s F=(lF (stA lens fl x (cdA lens fl l s F).1 (cdA lens fl l s F).2.2).1 (stA lens fl y (cdA lens fl l s F).2.1 (stA lens fl x (cdA lens fl l s F).1 (cdA lens fl l s F).2.2).2).1,(stA lens fl y (cdA lens fl l s F).2.1 (stA lens fl x (cdA lens fl l s F).1 (cdA lens fl l s F).2.2).2).2):=by
 conv=>lhs;unfold stA
 rw[if_neg (by omega),if_neg (by omega),if_neg (by omega),if_neg (by omega),if_pos ht]
theorem xM{b o:Nat}{a:Nd}{l:Tr}{s:St}{F:Fl}(ht:a.tag=11):stA lens fl (.node b o a l .nil) s F=(s,F):=by
 conv=>lhs;unfold stA
 rw[if_neg (by omega),if_neg (by omega),if_neg (by omega),if_neg (by omega),if_pos ht]
theorem tB{b o:Nat}{a:Nd}{l q:Tr}{s:St}{F:Fl}(ht:a.tag=12):stA lens fl (.node b o a l q) s F=whA (dR q) (cdA lens fl l) (stA lens fl q) 4 1 s F:=by
 conv=>lhs;unfold stA
 rw[if_neg (by omega),if_neg (by omega),if_neg (by omega),if_neg (by omega),if_neg (by omega),if_pos ht]
theorem tA{b o:Nat}{a:Nd}{l q:Tr}{s:St}{F:Fl}(ht:a.tag=13):stA lens fl (.node b o a l q) s F=(none,(exA lens fl s.isSome (cC s) l F).2):=by
 conv=>lhs;unfold stA
 rw[if_neg (by omega),if_neg (by omega),if_neg (by omega),if_neg (by omega),if_neg (by omega),if_neg (by omega),if_pos ht]
theorem sZ{b o:Nat}{a:Nd}{l q:Tr}{s:St}{F:Fl}(ht:a.tag=14):stA lens fl (.node b o a l q) s F=(s,(exA lens fl s.isSome (cC s) l F).2):=by
 conv=>lhs;unfold stA
 rw[if_neg (by omega),if_neg (by omega),if_neg (by omega),if_neg (by omega),if_neg (by omega),if_neg (by omega),if_neg (by omega),if_pos ht]
theorem aBR{b o:Nat}{a:Nd}{l q:Tr}{s:St}{F:Fl}(ht:a.tag≠20/\a.tag≠18/\a.tag≠15/\¬(9<=a.tag/\a.tag<=14)):stA lens fl (.node b o a l q) s F=(s,F):=by
 conv=>lhs;unfold stA
 rw[if_neg (by omega),if_neg (by omega),if_neg (by omega),if_neg (by omega),if_neg (by omega),if_neg (by omega),if_neg (by omega),if_neg (by omega)]
theorem aLV{b o:Nat}{a:Nd}{l q:Tr}{m:Fm}(ht:a.tag=20\/a.tag=18):stW lens C (.node b o a l q) m=stW lens C l m:=by
 conv=>lhs;unfold stW
 rw[if_pos ht]
theorem aLW{b o:Nat}{a:Nd}{l q:Tr}{m:Fm}(ht:a.tag=15):stW lens C (.node b o a l q) m=if m.run.burns then(if(stW lens C l {m with run:=m.run.burn}).on then stW lens C q (stW lens C l {m with run:=m.run.burn})else stW lens C l {m with run:=m.run.burn})else {m with on:=false,run:=m.run.burn}:=by
 conv=>lhs;unfold stW
 rw[if_neg (by omega),if_pos ht]
theorem aRL{b o:Nat}{a:Nd}{l q:Tr}{m:Fm}(ht:a.tag=9):stW lens C (.node b o a l q) m={m with vars:=upd m.vars a.which.toNat (hd (exW lens C m.vars l m.run).1),run:=(exW lens C m.vars l m.run).2}:=by
 conv=>lhs;unfold stW
 rw[if_neg (by omega),if_neg (by omega),if_pos ht]
theorem aM1{b o:Nat}{a:Nd}{l q:Tr}{m:Fm}(ht:a.tag=10):stW lens C (.node b o a l q) m=if fI lens a.which (hd (exW lens C m.vars l m.run).1)then
 {m with run:={(exW lens C m.vars q (exW lens C m.vars l m.run).2).2 with arr:=upd (exW lens C m.vars q (exW lens C m.vars l m.run).2).2.arr (gH a.which (hd (exW lens C m.vars l m.run).1)) (hd (exW lens C m.vars q (exW lens C m.vars l m.run).2).1)}}
 else {m with run:=(exW lens C m.vars q (exW lens C m.vars l m.run).2).2.trap a.site}:=by
 conv=>lhs;unfold stW
 rw[if_neg (by omega),if_neg (by omega),if_neg (by omega),if_pos ht]
theorem aM0{b o:Nat}{a:Nd}{l x y:Tr}{b2 o2:Nat}{z:Nd}{m:Fm}(ht:a.tag=11):stW lens C (.node b o a l (.node b2 o2 z x y)) m=if(cdW lens C m.vars l m.run).1 then stW lens C x {m with run:=(cdW lens C m.vars l m.run).2}else stW lens C y {m with run:=(cdW lens C m.vars l m.run).2}:=by
 conv=>lhs;unfold stW
 rw[if_neg (by omega),if_neg (by omega),if_neg (by omega),if_neg (by omega),if_pos ht]
theorem aLZ{b o:Nat}{a:Nd}{l q:Tr}{m:Fm}(ht:a.tag=12):stW lens C (.node b o a l q) m=mC (fun m=>cdW lens C m.vars l m.run) (stW lens C q) (m.run.fuel+1) m:=by
 conv=>lhs;unfold stW
 rw[if_neg (by omega),if_neg (by omega),if_neg (by omega),if_neg (by omega),if_neg (by omega),if_pos ht]
theorem aLY{b o:Nat}{a:Nd}{l q:Tr}{m:Fm}(ht:a.tag=13):stW lens C (.node b o a l q) m={m with on:=false,value:=hd (exW lens C m.vars l m.run).1,run:=(exW lens C m.vars l m.run).2}:=by
 conv=>lhs;unfold stW
 rw[if_neg (by omega),if_neg (by omega),if_neg (by omega),if_neg (by omega),if_neg (by omega),if_neg (by omega),if_pos ht]
theorem aLX{b o:Nat}{a:Nd}{l q:Tr}{m:Fm}(ht:a.tag=14):stW lens C (.node b o a l q) m={m with run:=(exW lens C m.vars l m.run).2.out (hd (exW lens C m.vars l m.run).1)}:=by
 conv=>lhs;unfold stW
 rw[if_neg (by omega),if_neg (by omega),if_neg (by omega),if_neg (by omega),if_neg (by omega),if_neg (by omega),if_neg (by omega),if_pos ht]
theorem mP{k:Int}:∀ (n:Nat) (t:Tr),szT t<=n->∀ (s:St) (F:Fl),k ∉ bE t->(stA lens fl t s F).2 k=F k:=by
 intro n
 induction n with
 |zero=>intro t h;cases t<;>simp[szT]at h
 |succ n ih=>
  intro t h1 s F h;cases t with
  |nil=>rfl
  |node b o a l q=>
   have hl:szT l<=n/\szT q<=n:=by simp only[szT]at h1;omega
   obtain⟨h0,kl,kq⟩:=rW h
   by_cases t20:a.tag=20\/a.tag=18
   ·rw[qT t20];exact ih l hl.1 s F kl
   by_cases t15:a.tag=15
   ·rw[sY t15];exact(ih q hl.2 _ _ kq).trans (ih l hl.1 s F kl)
   by_cases t9:a.tag=9
   ·rw[yF t9];exact gS l F kl
   by_cases t10:a.tag=10
   ·rw[tD t10];exact(gS q _ kq).trans ((kU _ _ (h0 (by simp[dM,t10]))).trans (gS l F kl))
   by_cases t11:a.tag=11
   ·cases q with
    |nil=>rw[xM t11]
    |node b2 o2 z x y=>
     obtain⟨_,kx,ky⟩:=rW kq;have hs:szT x<=n/\szT y<=n:=by have:=hl.2;simp only[szT]at this;omega
     rw[tC t11];exact(ih y hs.2 _ _ ky).trans ((ih x hs.1 _ _ kx).trans (sI l s F kl))
   by_cases t12:a.tag=12
   ·rw[tB t12];exact aIM (fun s F=>sI l s F kl) (fun s F=>ih q hl.2 s F kq) _ _ _ _
   by_cases t13:a.tag=13
   ·rw[tA t13];exact gS l F kl
   by_cases t14:a.tag=14
   ·rw[sZ t14];exact gS l F kl
   ·rw[aBR (by omega)]
theorem yE{s x y n:Nat}(hs:s=2\/s=4\/s=14)(h:sig s n=some (x,y)):(n=20/\x=14/\y=99)\/(n=15/\x=2/\y=14)\/(n=9/\x=0/\y=99)\/(n=10/\x=0/\y=0)\/(n=11/\x=1/\y=9)\/(n=12/\x=1/\y=4)\/((n=13\/n=14)/\x=0/\y=99):=by
 unfold sig at h;rcases hs with rfl|rfl|rfl
 ·simp at h
  repeat' split at h
  all_goals simp at h
  all_goals omega
 ·simp at h;omega
 ·simp at h;omega
theorem zD{q:Tr}(h:Ws 9 q):∃ b o z x y,q= .node b o z x y/\z.tag=18/\Ws 4 x/\Ws 4 y:=by
 cases q with
 |nil=>exact absurd h (by simp[Ws,bK])
 |node b o z x y=>
  obtain⟨_,u,v,h0,hx,hy⟩:=h.parts
  have:z.tag=18/\u=4/\v=4:=by
   unfold sig at h0;simp at h0;omega
  obtain⟨ht,rfl,rfl⟩:=this;exact⟨b,o,z,x,y,rfl,ht,hx,hy⟩
theorem aIY{i:Nat}:∀ (n:Nat) (t:Tr),szT t<=n->∀ s m,s=2\/s=4\/s=14->Ws s t->dR t i=false->(stW lens C t m).vars i=m.vars i:=by
 intro n
 induction n with
 |zero=>intro t h;cases t<;>simp[szT]at h
 |succ n ih=>
  intro t h7 s m hs hw h;cases t with
  |nil=>rfl
  |node b o a l q=>
   have hl:szT l<=n/\szT q<=n:=by simp only[szT]at h7;omega
   obtain⟨_,x,y,h1,h3,h0⟩:=hw.parts;rcases yE hs h1 with⟨ht,rfl,rfl⟩|⟨ht,rfl,rfl⟩|⟨ht,rfl,rfl⟩|⟨ht,rfl,rfl⟩|⟨ht,rfl,rfl⟩|⟨ht,rfl,rfl⟩|⟨ht|ht,rfl,rfl⟩
   ·rw[aLV (.inl ht)];unfold dR at h;rw[if_neg (by omega),Bool.or_eq_false_iff]at h;exact ih l hl.1 14 m (by omega) h3 h.1
   ·rw[aLW ht];unfold dR at h;rw[if_neg (by omega),Bool.or_eq_false_iff]at h;have e1:=ih l hl.1 2 {m with run:=m.run.burn} (by omega) h3 h.1
    split
    ·split
     ·exact(ih q hl.2 14 _ (by omega) h0 h.2).trans e1
     ·exact e1
    ·rfl
   ·rw[aRL ht];unfold dR at h;rw[if_pos ht,decide_eq_false_iff_not]at h;show(if i=a.which.toNat then _ else _)=_;rw[if_neg (fun e=>h e.symm)]
   ·rw[aM1 ht];split<;>rfl
   ·obtain⟨b2,o2,z,u,v,rfl,hz,h6,h5⟩:=zD h0;have h4:szT u<=n/\szT v<=n:=by have:=hl.2;simp only[szT]at this;omega
    rw[aM0 ht];unfold dR at h;rw[if_neg (by omega),Bool.or_eq_false_iff]at h;have h2:=h.2;unfold dR at h2;rw[if_neg (by omega),Bool.or_eq_false_iff]at h2
    split
    ·exact ih u h4.1 4 _ (by omega) h6 h2.1
    ·exact ih v h4.2 4 _ (by omega) h5 h2.2
   ·rw[aLZ ht];unfold dR at h;rw[if_neg (by omega),Bool.or_eq_false_iff]at h
    have key:∀ (k:Nat) (m:Fm),(mC (fun m=>cdW lens C m.vars l m.run) (stW lens C q) k m).vars i=m.vars i:=by
     intro k
     induction k with
     |zero=>intro m;rfl
     |succ k ihk=>
      intro m;unfold mC;have e2:=ih q hl.2 4 {m with run:=(cdW lens C m.vars l m.run.burn).2} (by omega) h0 h.2
      split
      ·split
       ·split
        ·exact(ihk _).trans e2
        ·exact e2
       ·rfl
      ·rfl
    exact key _ m
   ·rw[aLY ht]
   ·rw[aLX ht]
theorem vN{m:Nat->Bool}{vs after:Vr}(h:∀ i,bV (vs i)):∀ i,bV (eJ m vs after i):=fun i=>by
 unfold eJ
 split
 ·exact(h i).widen
 ·exact h i
theorem aGJ{m:Nat->Bool}{vs:Vr}(h:∀ i,bV (vs i)):∀ i,bV (gL m vs i):=fun i=>by
 unfold gL
 split
 ·exact bV.all
 ·exact h i
theorem aAT{m:Nat->Bool}{vs after:Vr}{k:Nat}(h:∀ i,bV (vs i)):OkS (some (if k=3 then gL m (eJ m vs after)else eJ m vs after)):=by
 refine OkS.some ?_
 split
 ·exact aGJ (vN h)
 ·exact vN h
theorem aS4{m:Nat->Bool}{c:St->Fl->St × St × Fl}{f:St->Fl->St × Fl}(hc:∀ s F,OkS s->OkS (c s F).1/\OkS (c s F).2.1)(_hf:∀ s F,OkS s->OkS (f s F).1):∀ (n round:Nat) (s:St) (F:Fl),OkS s->OkS (whA m c f n round s F).1:=by
 intro n
 induction n with
 |zero=>intro round s F h;exact h
 |succ n ih=>
  intro round s F h;unfold whA;dsimp only;cases s with
  |none=>exact(hc _ _ h).2
  |some vs=>
   cases(f (c (some vs) F).1 (c (some vs) F).2.2).1 with
   |none=>exact(hc _ _ h).2
   |some after=>
    dsimp only
    split
    ·exact ih _ _ _ (aAT (h vs rfl))
    ·exact(hc _ _ h).2
theorem aFO:∀ (n:Nat) (t:Tr),szT t<=n->∀ (s0:Nat) (s:St) (F:Fl),s0=2\/s0=4\/s0=14->Ws s0 t->OkS s->OkS (stA lens fl t s F).1:=by
 intro n
 induction n with
 |zero=>intro t h;cases t<;>simp[szT]at h
 |succ n ih=>
  intro t h6 s0 s F hs hw h;cases t with
  |nil=>exact h
  |node b o a l q=>
   have hl:szT l<=n/\szT q<=n:=by simp only[szT]at h6;omega
   obtain⟨_,x,y,h2,h0,h1⟩:=hw.parts;rcases yE hs h2 with⟨ht,rfl,rfl⟩|⟨ht,rfl,rfl⟩|⟨ht,rfl,rfl⟩|⟨ht,rfl,rfl⟩|⟨ht,rfl,rfl⟩|⟨ht,rfl,rfl⟩|⟨ht|ht,rfl,rfl⟩
   ·rw[qT (.inl ht)];exact ih l hl.1 14 s F (by omega) h0 h
   ·rw[sY ht];exact ih q hl.2 14 _ _ (by omega) h1 (ih l hl.1 2 s F (by omega) h0 h)
   ·rw[yF ht];cases s with
    |none=>exact OkS.none
    |some vs=>exact OkS.upd (h vs rfl) _ (wK (h vs rfl) l 0 F h0).hd
   ·rw[tD ht];exact h
   ·obtain⟨b2,o2,z,u,v,rfl,hz,h5,h4⟩:=zD h1;have h3:szT u<=n/\szT v<=n:=by have:=hl.2;simp only[szT]at this;omega
    rw[tC ht];have hc:=wO (lens:=lens) (fl:=fl) l s F h0 h;exact nP (ih u h3.1 4 _ _ (by omega) h5 hc.1) (ih v h3.2 4 _ _ (by omega) h4 hc.2)
   ·rw[tB ht];exact aS4 (fun s F h=>wO l s F h0 h) (fun s F h=>ih q hl.2 4 s F (by omega) h1 h) _ _ _ _ h
   ·rw[tA ht];exact OkS.none
   ·rw[sZ ht];exact h
theorem aPE{m:Nat->Bool}{c:St->Fl->St × St × Fl}{f:St->Fl->St × Fl}(hc:∀ s F,OkS s->OkS (c s F).1/\OkS (c s F).2.1)(hf:∀ s F,OkS s->OkS (f s F).1):∀ (n round:Nat) (s:St) (F:Fl),OkS s->1<=n->n+round=5->(n=1->∀ vs,s=some vs->∀ i,m i=true->vs i=aX)->
 ∃ H F1,OkS H/\(∀ vars,InS s vars->InS H vars)/\whA m c f n round s F=((c H F1).2.1,(f (c H F1).1 (c H F1).2.2).2)/\∀ hs,H=some hs->∀ after,(f (c H F1).1 (c H F1).2.2).1=some after->∀ i,i < 12->m i=true->cH (hs i) (after i)=hs i:=by
 intro n
 induction n with
 |zero=>intro round s F _ h;omega
 |succ n ih=>
  intro round s F hs _ hn h2;cases s with
  |none=>exact⟨none,F,hs,fun _ h=>h,rfl,fun _ e=>by cases e⟩
  |some vs=>
   cases hy:(f (c (some vs) F).1 (c (some vs) F).2.2).1 with
   |none=>
    refine⟨some vs,F,hs,fun _ h=>h,?_,fun _ _ after e=>by rw[hy]at e;cases e⟩;unfold whA;dsimp only;rw[hy]
   |some after=>
    have h6:∀ i,bV (after i):=hf _ _ (hc _ F hs).1 after hy
    have e0:whA m c f (n+1) round (some vs) F=if nJ (eJ m vs after) vs then whA m c f n (round+1) (some (if round=3 then gL m (eJ m vs after)else eJ m vs after)) (f (c (some vs) F).1 (c (some vs) F).2.2).2 else((c (some vs) F).2.1,(f (c (some vs) F).1 (c (some vs) F).2.2).2):=by
     rw[whA];rw[hy]
    by_cases hp:nJ (eJ m vs after) vs=true
    ·rw[e0,if_pos hp];rcases Nat.eq_zero_or_pos n with h0|h0
     ·exfalso;subst h0;have h1:=h2 rfl vs rfl;unfold nJ at hp;rw[List.any_eq_true]at hp;obtain⟨i,_,hi⟩:=hp;rw[decide_eq_true_eq]at hi;apply hi;unfold eJ
      split
      ·rename_i hm;rw[h1 i hm];have:=h6 i;unfold cH aX;dsimp only;rw[if_neg (by have:=this.lo;omega),if_neg (by have:=this.hi;omega)]
      ·rfl
     ·obtain⟨H,F1,g1,g2,g3,g4⟩:=ih (round+1) (some (if round=3 then gL m (eJ m vs after)else eJ m vs after)) (f (c (some vs) F).1 (c (some vs) F).2.2).2 (aAT (hs vs rfl)) h0 (by omega) (fun e vs2 e2 i hm=>by
       rw[if_pos (by omega)]at e2;cases e2;unfold gL;rw[if_pos hm])
      refine⟨H,F1,g1,fun vars h5=>g2 vars ?_,g3,g4⟩;obtain⟨vs3,e3,h3⟩:=h5;cases e3;refine⟨_,rfl,fun i hi=>?_⟩
      have hw:inR (eJ m vs after i) (vars i):=by
       unfold eJ
       split
       ·exact inR.widen (hs vs rfl i) (h3 i hi)
       ·exact h3 i hi
      split
      ·unfold gL
       split
       ·exact inR.all (hw.bd (vN (hs vs rfl) i))
       ·exact hw
      ·exact hw
    ·refine⟨some vs,F,hs,fun _ h=>h,by rw[e0,if_neg hp],fun hs2 e2 after2 e3 i hi hm=>?_⟩;cases e2;rw[hy]at e3;cases e3
     by_cases h4:cH (vs i) (after i)=vs i
     ·exact h4
     ·exfalso;apply hp;unfold nJ;rw[List.any_eq_true];refine⟨i,List.mem_range.2 hi,?_⟩;rw[decide_eq_true_eq];unfold eJ;rw[if_pos hm];exact h4
theorem Gr.live{u v:Rn}(g:Gr u v)(h:v.fin=0):u.fin=0:=by
 by_cases h0:u.fin=0
 ·exact h0
 ·rw[(g.dead h0).1]at h;exact absurd h h0
structure StP(Fg:Fl)(s:St)(m:Fm):Prop where
 num:∀ i,i64 (m.vars i)
 val:i64 m.value
 si:SI Fg m.run
 on:m.run.fin=0->InS s m.vars
structure StS(Fg:Fl)(s:St)(m:Fm):Prop where
 num:∀ i,i64 (m.vars i)
 val:i64 m.value
 si:SI Fg m.run
 on:m.run.fin=0->m.on=true->InS s m.vars
theorem StP.run{s:St}{m:Fm}(h:StP Fg s m){r:Rn}(hr:SI Fg r){s2:St}(h0:r.fin=0->InS s2 m.vars):StP Fg s2 {m with run:=r}:=⟨h.num,h.val,hr,h0⟩
theorem aG3{H X N:St}{cW:Fm->Bool × Rn}{fW:Fm->Fm}(h4:∀ m,Gr m.run (cW m).2)(h2:∀ m,Gr m.run (fW m).run)(hc:∀ m,StP Fg H m->CdS Fg (X,N,fun _=>false) (cW m) m.vars)(hf:∀ m,StP Fg X m->(m.run.fin=0->InS H m.vars)->StS Fg H (fW m)):
 ∀ (n:Nat) (m:Fm),m.run.fuel < n->StP Fg H m->StS Fg N (mC cW fW n m):=by
 intro n
 induction n with
 |zero=>intro m h;omega
 |succ n ih=>
  intro m hn hP;have gb:=Gr.burn m.run;have h1:StP Fg H {m with run:=m.run.burn}:=hP.run hP.si.burn (fun h=>hP.on (gb.live h));unfold mC
  by_cases hb:m.run.burns=true
  ·rw[if_pos hb]
   have hfu:m.run.burn.fuel < m.run.fuel:=by
    unfold Rn.burns at hb;simp only[Bool.and_eq_true,decide_eq_true_eq]at hb;have e:m.run.burn={m.run with fuel:=m.run.fuel - 1}:=by unfold Rn.burn;rw[if_neg hb.1,if_pos hb.2]
    rw[e];show m.run.fuel - 1 < m.run.fuel;omega
   have C:=hc _ h1;have gc:=h4 {m with run:=m.run.burn};generalize cW {m with run:=m.run.burn}=u at*
   by_cases hu:u.1=true
   ·rw[if_pos hu];have h5:StP Fg X {m with run:=u.2}:=hP.run C.si (fun h=>C.yes h hu);have S:=hf {m with run:=u.2} h5 (fun h=>h1.on (gc.live h));have gf:=h2 {m with run:=u.2};generalize fW {m with run:=u.2}=v at*
    by_cases hv:v.on=true
    ·rw[if_pos hv];exact ih v (by have:=gc.fuel;have:=gf.fuel;dsimp only at*;omega) ⟨S.num,S.val,S.si,fun h=>S.on h hv⟩
    ·rw[if_neg hv];exact⟨S.num,S.val,S.si,fun _ h=>absurd h hv⟩
   ·rw[if_neg hu];exact⟨hP.num,hP.val,C.si,fun h _=>C.no h (by simpa using hu)⟩
  ·rw[if_neg hb];refine⟨hP.num,hP.val,hP.si.burn,fun h _=>?_⟩;exfalso;have h0:=gb.live h
   have h3:m.run.fuel=0:=by
    unfold Rn.burns at hb;simp only[Bool.and_eq_true,decide_eq_true_eq,not_and]at hb
    by_cases hz:m.run.fuel=0
    ·exact hz
    ·exact absurd h0 (hb hz)
   have e:m.run.burn={m.run with fin:=3}:=by unfold Rn.burn Rn.stop;rw[if_pos h3,if_pos h0]
   rw[e]at h;exact absurd (show(3:Int)=0 from h) (by decide)
theorem aAQ{par:Nat->Option Nat}{na:Nat}(hC:CS par Fg fl C)(hG:CGr C):∀ (n:Nat) (t:Tr),szT t<=n->∀ (s0:Nat) (s:St) (F:Fl) (m:Fm),s0=2\/s0=4\/s0=14->Ws s0 t->Vd par na 12 t->tZ fl t->(bE t).Nodup->(∀ k∈bE t,Fg k=(stA lens fl t s F).2 k)->OkS s->StP Fg s m->
 StS Fg (stA lens fl t s F).1 (stW lens C t m):=by
 intro n
 induction n with
 |zero=>intro t h;cases t<;>simp[szT]at h
 |succ n ih=>
  intro t k5 s0 s F m k7 hw k4 k6 k8 h1 hs hP;cases t with
  |nil=>exact⟨hP.num,hP.val,hP.si,fun h _=>hP.on h⟩
  |node b o a l q=>
   have hl:szT l<=n/\szT q<=n:=by simp only[szT]at k5;omega
   obtain⟨hok,x,y,h7,h3,h4⟩:=hw.parts;obtain⟨vl,vq,v1,v2,v3⟩:=k4;obtain⟨sl,sq,_,_⟩:=k6;obtain⟨nl,nq,nlq,nown⟩:=fU k8;have h5:m.run.fin=0->s.isSome=true/\∀ i,i < 12->inR (cC s i) (m.vars i):=fun h=>(hP.on h).alive;have ge:=oX (lens:=lens) (vars:=m.vars) hG l m.run;rcases yE k7 h7 with⟨ht,rfl,rfl⟩|⟨ht,rfl,rfl⟩|⟨ht,rfl,rfl⟩|⟨ht,rfl,rfl⟩|⟨ht,rfl,rfl⟩|⟨ht,rfl,rfl⟩|⟨ht|ht,rfl,rfl⟩
   ·rw[aLV (.inl ht),qT (.inl ht)];exact ih l hl.1 14 s F m (by omega) h3 vl sl nl (fun k hk=>by rw[h1 k (fR hk),qT (.inl ht)]) hs hP
   ·rw[sY ht]at h1 ⊢;rw[aLW ht];have gb:=Gr.burn m.run;have S1:=ih l hl.1 2 s F {m with run:=m.run.burn} (by omega) h3 vl sl nl (fun k hk=>(h1 k (fR hk)).trans (mP _ q (Nat.le_refl _) _ _ (nlq k hk))) hs (hP.run hP.si.burn (fun h=>hP.on (gb.live h)));have ok1:=aFO (lens:=lens) (fl:=fl) _ l (Nat.le_refl _) 2 s F (by omega) h3 hs
    split
    ·split
     ·rename_i hon;exact ih q hl.2 14 _ _ _ (by omega) h4 vq sq nq (fun k hk=>h1 k (gK hk)) ok1 ⟨S1.num,S1.val,S1.si,fun h=>S1.on h hon⟩
     ·rename_i hon;exact⟨S1.num,S1.val,S1.si,fun _ h=>absurd h hon⟩
    ·exact⟨hP.num,hP.val,hP.si.burn,fun _ h=>absurd h (by dsimp only;decide)⟩
   ·rw[yF ht]at h1 ⊢;rw[aRL ht];have e1:=lR (lens:=lens) (alive:=s.isSome) hC hG hs.vs hP.num l 0 F m.run h3 vl sl nl (fun k hk=>h1 k (fR hk)) hP.si h5;refine⟨fun i=>?_,hP.val,e1.si,fun h _=>?_⟩
    ·show i64 (if i=a.which.toNat then _ else _)
     split
     ·exact e1.num.hd
     ·exact hP.num i
    ·obtain⟨vs,rfl,h2⟩:=hP.on (ge.live h);refine⟨_,rfl,fun i hi=>?_⟩;show inR (if i=a.which.toNat then _ else _) (if i=a.which.toNat then _ else _)
     split
     ·exact(e1.on h).hd
     ·exact h2 i hi
   ·rw[tD ht]at h1 ⊢;rw[aM1 ht];have ho:dM a=true:=by simp[dM,ht]
    have e1:=lR (lens:=lens) (alive:=s.isSome) hC hG hs.vs hP.num l 0 F m.run h3 vl sl nl (fun k hk=>(h1 k (fR hk)).trans ((gS q _ (nlq k hk)).trans (kU _ _ (fun e=>(nown ho).1 (e ▸ hk))))) hP.si h5;have e2:=lR (lens:=lens) (alive:=s.isSome) hC hG hs.vs hP.num q 0 _ (exW lens C m.vars l m.run).2 h4 vq sq nq (fun k hk=>h1 k (gK hk)) e1.si (fun h=>h5 (ge.live h));have g2:=oX (lens:=lens) (vars:=m.vars) hG q (exW lens C m.vars l m.run).2;have h6:=((h1 a.site (pG ho)).trans (gS q _ (nown ho).2)).trans (uD _ _ _)
    by_cases hi:fI lens a.which (hd (exW lens C m.vars l m.run).1)=true
    ·rw[if_pos hi];refine⟨hP.num,hP.val,⟨fun i=>?_,e2.si.sd,e2.si.no⟩,fun h _=>hP.on (ge.live (g2.live h))⟩;show i64 (if i=_ then _ else _)
     split
     ·exact e2.num.hd
     ·exact e2.si.arr i
    ·rw[if_neg hi];refine⟨hP.num,hP.val,e2.si.trap (fun h0=>?_),fun h _=>hP.on (ge.live (g2.live ((Gr.trap _ _).live h)))⟩;obtain⟨k1,k2⟩:=(e1.on (g2.live h0)).hd;rw[h6,dead (h5 (ge.live (g2.live h0))).1];simp only[Bool.or_false,Bool.and_eq_false_iff,decide_eq_false_iff_not];unfold fI at hi;simp only[Bool.and_eq_true,decide_eq_true_eq]at hi;omega
   ·obtain⟨b2,o2,z,u,v,rfl,hz,k3,k0⟩:=zD h4;have h9:szT u<=n/\szT v<=n:=by have:=hl.2;simp only[szT]at this;omega
    rw[tC ht]at h1 ⊢;rw[aM0 ht];obtain⟨vu,vv,_⟩:=vq;obtain⟨su,sv,_⟩:=sq;obtain⟨nu,nv,nuv,_⟩:=fU nq;have lu:∀ k∈bE l,k ∉ bE u:=fun k hk h=>nlq k hk (fR h);have lv:∀ k∈bE l,k ∉ bE v:=fun k hk h=>nlq k hk (gK h);have okc:=wO (lens:=lens) (fl:=fl) l s F h3 hs;have C1:=aBG (lens:=lens) hC hG hP.num l s F m.run h3 vl sl nl (fun k hk=>(h1 k (fR hk)).trans ((mP _ v (Nat.le_refl _) _ _ (lv k hk)).trans (mP _ u (Nat.le_refl _) _ _ (lu k hk)))) hs hP.si hP.on
    split
    ·rename_i hc;have S:=ih u h9.1 4 (cdA lens fl l s F).1 (cdA lens fl l s F).2.2 {m with run:=(cdW lens C m.vars l m.run).2} (by omega) k3 vu su nu (fun k hk=>(h1 k (gK (fR hk))).trans (mP _ v (Nat.le_refl _) _ _ (nuv k hk))) okc.1 (hP.run C1.si (fun h=>C1.yes h hc));exact⟨S.num,S.val,S.si,fun h ho=>aC6 (S.on h ho)⟩
    ·rename_i hc;have S:=ih v h9.2 4 (cdA lens fl l s F).2.1 (stA lens fl u (cdA lens fl l s F).1 (cdA lens fl l s F).2.2).2 {m with run:=(cdW lens C m.vars l m.run).2} (by omega) k0 vv sv nv (fun k hk=>h1 k (gK (gK hk))) okc.2 (hP.run C1.si (fun h=>C1.no h (by simpa using hc)));exact⟨S.num,S.val,S.si,fun h ho=>aC5 (S.on h ho)⟩
   ·rw[tB ht]at h1 ⊢;rw[aLZ ht];have okc:∀ (s:St) (F:Fl),OkS s->OkS (cdA lens fl l s F).1/\OkS (cdA lens fl l s F).2.1:=fun s F h=>wO l s F h3 h;have okf:∀ (s:St) (F:Fl),OkS s->OkS (stA lens fl q s F).1:=fun s F h=>aFO _ q (Nat.le_refl _) 4 s F (by omega) h4 h;obtain⟨H,F1,g1,g2,g3,g4⟩:=aPE okc okf 4 1 s F hs (by omega) rfl (fun e=>absurd e (by decide));rw[g3]at h1 ⊢;refine aG3 (H:=H) (X:=(cdA lens fl l H F1).1) (fun m=>aCJ hG l m.run) (fun m=>aFN hG _ q (Nat.le_refl _) m) (fun m hm=>?_) (fun m hm k9=>?_) _ m (Nat.lt_succ_self _) (hP.run hP.si (fun h=>g2 _ (hP.on h)))
    ·have C1:=aBG (lens:=lens) hC hG hm.num l H F1 m.run h3 vl sl nl (fun k hk=>(h1 k (fR hk)).trans (mP _ q (Nat.le_refl _) _ _ (nlq k hk))) g1 hm.si hm.on;exact⟨C1.si,C1.yes,C1.no⟩
    ·have S:=ih q hl.2 4 (cdA lens fl l H F1).1 (cdA lens fl l H F1).2.2 m (by omega) h4 vq sq nq (fun k hk=>h1 k (gK hk)) (okc H F1 g1).1 hm;refine⟨S.num,S.val,S.si,fun h ho=>?_⟩;obtain⟨after,ea,ha⟩:=S.on h ho;obtain⟨h8,eh,hh⟩:=k9 ((aFN (lens:=lens) hG _ q (Nat.le_refl _) m).live h);refine⟨h8,eh,fun i hi=>?_⟩;cases hst:dR q i
     ·rw[aIY _ q (Nat.le_refl _) 4 m (by omega) h4 hst];exact hh i hi
     ·exact inR.widen_same (g1 h8 eh i) (okf _ _ (okc H F1 g1).1 after ea i) (g4 h8 eh after ea i hi hst) (ha i hi)
   ·rw[tA ht]at h1 ⊢;rw[aLY ht];have e1:=lR (lens:=lens) (alive:=s.isSome) hC hG hs.vs hP.num l 0 F m.run h3 vl sl nl (fun k hk=>h1 k (fR hk)) hP.si h5;exact⟨hP.num,e1.num.hd,e1.si,fun _ h=>absurd h (by dsimp only;decide)⟩
   ·rw[sZ ht]at h1 ⊢;rw[aLX ht];have e1:=lR (lens:=lens) (alive:=s.isSome) hC hG hs.vs hP.num l 0 F m.run h3 vl sl nl (fun k hk=>h1 k (fR hk)) hP.si h5;exact⟨hP.num,hP.val,e1.si.out _,fun h _=>hP.on (ge.live ((Gr.out _ _).live h))⟩
end Go.Proofs.YtikffmloeifkpaaGreatDoor
namespace Go.Proofs.YtikffmloeifkpaaGreatDoor
open Go.RowKit Go.Lib Go.Deep
variable {lens:Nat->Int} {fl:List Tr} {Fg:Fl} {vars:Nat->Int}
theorem aI8{par:Nat->Option Nat}{na:Nat}{s:St}(hs:OkS s)(h4:InS s vars){u:Tr}(hu:Ws 21 u)(hv:Vd par na 12 u)(r:Rn):aCQ (iK (cC s) u,cV u) (hd (exW (fun _=>0) (fun _ _ _ r=>(0,r)) vars u r).1) vars:=by
 cases u with
 |nil=>exact absurd hu (by simp[Ws,bK])
 |node b o d l q=>
  obtain⟨h3,x,y,h2,_,_⟩:=hu.parts
  have hd1:d.tag<=1:=by
   by_cases h1:d.tag<=1
   ·exact h1
   ·simp[sig,h1]at h2
  by_cases h0:d.tag=0
  ·have hb:=h3.val (.inl h0);rw[aO6 h0];have e1:iK (cC s) (.node b o d l q)=cQ d.val:=if_pos h0;have e2:cV (.node b o d l q)= -1:=by show(if d.tag=4 then _ else _)=_;rw[if_neg (by omega),if_neg (by omega)]
   rw[e1,e2];exact⟨bV.one ⟨by omega,by omega⟩,inR.one _,fun h=>absurd rfl h⟩
  ·have h1:d.tag=1:=by omega
   have hb:=hv.2.2.1 (.inl h1);rw[aI3 h1];have e1:iK (cC s) (.node b o d l q)=cC s d.which.toNat:=if_neg h0;have e2:cV (.node b o d l q)=d.which:=by show(if d.tag=4 then _ else _)=_;rw[if_neg (by omega),if_pos h1]
   rw[e1,e2];exact⟨hs.vs _,h4.alive.2 _ (by omega),fun _=>⟨rfl,by show d.which.toNat < 12;omega⟩⟩
theorem aAI:∀ (t:Tr) (s:St),OkS s->OkS (eN t s):=by
 intro t
 induction t with
 |nil=>intro s h;exact h
 |node b o a e q ihe ihq=>
  intro s h;unfold eN
  split
  ·exact ihe s h
  ·cases e with
   |nil=>exact h
   |node b2 o2 c x y=>exact ihq _ (nR h _ _ _)
theorem aAJ{par:Nat->Option Nat}{na:Nat}:∀ (t:Tr) (s0:Nat) (s:St),s0=5\/s0=15->Ws s0 t->Vd par na 12 t->OkS s->InS s vars->tkW vars t=true->InS (eN t s) vars:=by
 intro t
 induction t with
 |nil=>intro s0 s _ _ _ _ h _;exact h
 |node b o a e q ihe ihq=>
  intro s0 s h5 hw hv hs h3 h1;obtain⟨_,x,y,h2,h4,k0⟩:=hw.parts;obtain⟨ve,vq,_⟩:=hv;unfold eN;unfold tkW at h1
  by_cases t20:a.tag=20
  ·have:x=15:=by
    rcases h5 with rfl|rfl<;>simp[sig,t20]at h2<;>omega
   subst this;rw[if_pos t20]at h1 ⊢;exact ihe 15 s (.inr rfl) h4 ve hs h3 h1
  ·have h6:x=20/\y=15:=by
    rcases h5 with rfl|rfl<;>simp[sig,t20]at h2<;>omega
   obtain⟨rfl,rfl⟩:=h6;rw[if_neg t20]at h1 ⊢;rw[Bool.and_eq_true]at h1;cases e with
   |nil=>exact h3
   |node b2 o2 c p z=>
    obtain⟨hok,x2,y2,h0,k1,h9⟩:=h4.parts;obtain⟨vp,vz,_⟩:=ve
    have t7:c.tag=7:=by
     by_cases h7:c.tag=7
     ·exact h7
     ·simp[sig,h7]at h0
    have h8:x2=21/\y2=21:=by simp[sig,t7]at h0;omega
    obtain⟨rfl,rfl⟩:=h8;have hh:=h1.1;unfold cdW at hh;rw[if_pos t7]at hh;exact ihq 15 _ (.inr rfl) k0 vq (nR hs _ _ _) (zG h3 (aI8 hs h3 k1 vp _) (aI8 hs h3 h9 vz _) hh) h1.2
theorem sL(n:Nat):OkS (nW n):=OkS.some fun i=>by
 split
 ·exact bV.all
 ·exact bV.zero
theorem wQ{l:List Int}(h:I6 l)(i:Nat):i64 (cI l i):=by
 unfold cI;rw[List.getD_eq_getElem?_getD];cases hi:l[i]? with
 |none=>exact⟨by decide,by decide⟩
 |some v=>exact h v (List.mem_of_getElem? hi)
theorem aBI{l:List Int}(h:I6 l):InS (nW l.length) (cI l):=by
 refine⟨_,rfl,fun i _=>?_⟩
 split
 ·exact inR.all (wQ h i)
 ·rename_i hi
  have e:cI l i=0:=by
   unfold cI;rw[List.getD_eq_getElem?_getD,List.getElem?_eq_none (by omega)];rfl
  rw[e];exact⟨Int.le_refl _,Int.le_refl _⟩
structure FnS(par:Nat->Option Nat)(na:Nat)(lens:Nat->Int)(fl:List Tr)(Fg:Fl)(e:Tr):Prop where
 wb:Ws 4 (bG e)
 ww:Ws 5 (aU e)
 vb:Vd par na 12 (bG e)
 vw:Vd par na 12 (aU e)
 so:tZ fl (bG e)
 nd:(bE (bG e)).Nodup
 ag:∃ F,∀ k∈bE (bG e),Fg k=(stA lens fl (bG e) (eN (aU e) (nW (gJ e))) F).2 k
theorem zE:i64 0:=⟨by decide,by decide⟩
theorem SI.calls{r:Rn}(h:SI Fg r)(n:Nat):SI Fg {r with calls:=n}:=⟨h.arr,h.sd,h.no⟩
theorem aEW{Bd:Tr->Fm->Fm}{e:Tr}{r:Rn}{s:St}(hB:∀ m,StP Fg s m->i64 (Bd (bG e) m).value/\SI Fg (Bd (bG e) m).run)(hv:∀ i,i64 (vars i))(hr:SI Fg r)(h2:r.fin=0->InS s vars):i64 (enW Bd e vars r).1/\SI Fg (enW Bd e vars r).2:=by
 have h0:SI Fg (if r.calls=60 then r.stop 4 else r):=by
  split
  ·exact hr.stop (by decide)
  ·exact hr
 have g0:Gr r (if r.calls=60 then r.stop 4 else r):=by
  split
  ·exact Gr.stop _ (.inr rfl)
  ·exact Gr.refl _
 unfold enW;dsimp only;generalize (if r.calls=60 then r.stop 4 else r)=r0 at h0 g0 ⊢;have g1:=(g0.trans (Gr.calls r0 (r.calls+1))).trans (Gr.burn _);have h1:=(h0.calls (r.calls+1)).burn;generalize ({r0 with calls:=r.calls+1}:Rn)=r1 at*
 split
 ·obtain⟨b1,b2⟩:=hB ⟨true,vars,0,r1.burn⟩ ⟨hv,zE,h1,fun h=>h2 (g1.live h)⟩;exact⟨b1,b2.calls _⟩
 ·exact⟨zE,h1.calls _⟩
theorem aPF{r:Rn}{s:Int}{c:Bool}(h:(if c=true then r else r.trap s).fin=0):c=true:=by
 cases c
 ·exfalso;rw[if_neg (by decide)]at h;unfold Rn.trap at h
  split at h
  ·exact absurd (show(2:Int)=0 from h) (by decide)
  ·contradiction
 ·rfl
theorem aOK{par:Nat->Option Nat}{na:Nat}(h2:∀ j n,par j=some n->∃ e,fl[j]?=some e/\gJ e=n)(h4:∀ e∈fl,FnS par na lens fl Fg e):∀ d,CS par Fg fl (clW lens fl d):=by
 have aIX:∀ (d:Nat) (Bd:Tr->Fm->Fm),(∀ e∈fl,∀ m,StP Fg (eN (aU e) (nW (gJ e))) m->i64 (Bd (bG e) m).value/\SI Fg (Bd (bG e) m).run)->
  ∀ (k:Int) (l:List Int) (s:Int) (r:Rn),par k.toNat=some l.length->SI Fg r->I6 l->(r.fin=0->tkW (cI l) (aU (fl.getD k.toNat .nil))=true\/Fg s=false)->
  i64 (enW Bd (fl.getD k.toNat .nil) (cI l) (if tkW (cI l) (aU (fl.getD k.toNat .nil))then r else r.trap s)).1/\SI Fg (enW Bd (fl.getD k.toNat .nil) (cI l) (if tkW (cI l) (aU (fl.getD k.toNat .nil))then r else r.trap s)).2:=by
  intro d Bd hB k l s r hk hr hl h3;obtain⟨e,he,hn⟩:=h2 _ _ hk;have h1:=List.mem_of_getElem? he;have hF:=h4 e h1;have e1:fl.getD k.toNat .nil=e:=by rw[List.getD_eq_getElem?_getD,he];rfl
  rw[e1]at h3 ⊢;refine aEW (s:=eN (aU e) (nW (gJ e))) (hB e h1) (wQ hl) ?_ (fun h=>?_)
  ·cases hc:tkW (cI l) (aU e)
   ·rw[if_neg (by decide)];refine hr.trap (fun h0=>?_);rcases h3 h0 with h|h
    ·rw[hc]at h;exact absurd h (by decide)
    ·exact h
   ·rw[if_pos rfl];exact hr
  ·have hc:=aPF h;rw[hn];exact aAJ (aU e) 5 _ (.inl rfl) hF.ww hF.vw (sL _) (aBI hl) hc
 intro d
 induction d with
 |zero=>exact aIX 0 (fun _ m=>m) (fun e _ m h=>⟨h.val,h.si⟩)
 |succ d ih=>
  refine aIX (d+1) (stW lens (clW lens fl d)) (fun e he m h=>?_);have hF:=h4 e he;obtain⟨F,h5⟩:=hF.ag;have S:=aAQ ih (aOL d) _ (bG e) (Nat.le_refl _) 4 _ F m (by omega) hF.wb hF.vb hF.so hF.nd h5 (aAI _ _ (sL _)) h;exact⟨S.val,S.si⟩
theorem aJ8{par:Nat->Option Nat}{na:Nat}{al:List Tr}(h0:∀ j n,par j=some n->∃ e,fl[j]?=some e/\gJ e=n)(h1:∀ e∈fl,FnS par na (aA al) fl Fg e){main:Tr}(hm:main∈fl){args:List Int}(ha:I6 args)(fuel:Int):
 ((nE al fl main args fuel).fin=2->Fg (nE al fl main args fuel).site=false)/\((nE al fl main args fuel).fin≠2->(nE al fl main args fuel).site= -1):=by
 unfold nE
 by_cases hc:args.length≠gJ main\/tkW (cI args) (aU main)=false
 ·rw[if_pos hc];exact⟨fun h=>absurd h (by decide),fun _=>rfl⟩
 ·rw[if_neg hc];have hF:=h1 main hm;obtain⟨F,h3⟩:=hF.ag
  have h2:tkW (cI args) (aU main)=true:=by
   by_cases h:tkW (cI args) (aU main)=true
   ·exact h
   ·exact absurd (.inr (by simpa using h)) hc
  have hn:gJ main=args.length:=by
   by_cases h:args.length=gJ main
   ·exact h.symm
   ·exact absurd (.inl h) hc
  have E:=aEW (Bd:=stW (aA al) (clW (aA al) fl (min (max fuel 0) 20000).toNat)) (e:=main) (vars:=cI args) (r:=⟨fun _=>0,(min (max fuel 0) 20000).toNat,0,0,-1,[]⟩) (Fg:=Fg) (s:=eN (aU main) (nW (gJ main)))
   (fun m h=>by
     have S:=aAQ (aOK h0 h1 _) (aOL (min (max fuel 0) 20000).toNat) _ (bG main) (Nat.le_refl _) 4 _ F m (by omega) hF.wb hF.vb hF.so hF.nd h3 (aAI _ _ (sL _)) h;exact⟨S.val,S.si⟩) (wQ ha) ⟨fun _=>zE,fun h=>absurd (show(0:Int)=2 from h) (by decide),fun _=>rfl⟩
   (fun _=>by rw[hn];exact aAJ (aU main) 5 _ (.inl rfl) hF.ww hF.vw (sL _) (aBI ha) h2)
  obtain⟨_,E⟩:=E;dsimp only;generalize enW (stW (aA al) (clW (aA al) fl (min (max fuel 0) 20000).toNat)) main (cI args) ⟨fun _=>0,(min (max fuel 0) 20000).toNat,0,0,-1,[]⟩=x at E ⊢
  split
  ·rename_i h;exact⟨fun k=>absurd k (by dsimp only;decide),fun _=>E.no (by omega)⟩
  ·exact⟨E.sd,E.no⟩
end Go.Proofs.YtikffmloeifkpaaGreatDoor
namespace Go.Proofs.YtikffmloeifkpaaGreatDoor
open Go.RowKit Go.Lib Go.Deep Go.ChangeMaps Go.MapKept
variable {F0:List Tr} {lens:Nat->Int} {fl:List Tr}
theorem aMH(t:Tr):∀ S:Sl,S.length<=(siR F0 t S).length:=by
 have h0:∀ (a:Nd) (S:Sl),S.length<=(bO F0 a S).length:=fun a S=>by
  unfold bO
  split
  ·simp
  split
  ·simp
  split
  ·split
   ·simp
   ·exact Nat.le_refl _
  ·exact Nat.le_refl _
 have h1:∀ (a:Nd) (S:Sl),S.length<=(dE a S).length:=fun a S=>by
  unfold dE
  split
  ·split
   ·simp
   ·exact Nat.le_refl _
  ·exact Nat.le_refl _
 induction t with
 |nil=>intro S;exact Nat.le_refl _
 |node b o a l r ihl ihr=>intro S;exact Nat.le_trans (Nat.le_trans (h0 a S) (ihl _)) (Nat.le_trans (h1 a _) (ihr _))
theorem aDN:∀ (t:Tr) (s:Nat) (S:Sl),Ws s t->(bE (siT F0 t S)).Nodup/\∀ k∈bE (siT F0 t S),(S.length:Int)<=k/\k < ((siR F0 t S).length:Int):=by
 intro t
 induction t with
 |nil=>intro s S _;exact⟨List.nodup_nil,fun _ h=>by cases h⟩
 |node b o a l r ihl ihr=>
  intro s S hw;obtain⟨h5,x,y,hsig,h4,h1⟩:=hw.parts;obtain⟨l1,l2⟩:=ihl x (bO F0 a S) h4;obtain⟨r1,r2⟩:=ihr y (dE a (siR F0 l (bO F0 a S))) h1;have gl:=aMH (F0:=F0) l (bO F0 a S);have gr:=aMH (F0:=F0) r (dE a (siR F0 l (bO F0 a S)));have eR:siR F0 (.node b o a l r) S=siR F0 r (dE a (siR F0 l (bO F0 a S))):=rfl;have eT:bE (siT F0 (.node b o a l r) S)=(if dM {a with site:=gI F0 a S (siR F0 l (bO F0 a S))}then[gI F0 a S (siR F0 l (bO F0 a S))]else[])++(bE (siT F0 l (bO F0 a S))++bE (siT F0 r (dE a (siR F0 l (bO F0 a S))))):=rfl;rw[eR,eT];generalize siR F0 l (bO F0 a S)=S1 at*
  have key:(dM {a with site:=gI F0 a S S1}=true->(gI F0 a S S1=S.length/\(bO F0 a S).length=S.length+1/\(dE a S1).length=S1.length)\/(gI F0 a S S1=S1.length/\(bO F0 a S).length=S.length/\(dE a S1).length=S1.length+1))/\S.length<=(bO F0 a S).length/\S1.length<=(dE a S1).length:=by
   by_cases h2:a.tag=2
   ·have e1:gI F0 a S S1=S.length:=by unfold gI;rw[if_pos (.inl h2)]
    have e2:bO F0 a S=S++[(1,a.npos)]:=by unfold bO;rw[if_pos h2]
    have e3:dE a S1=S1:=by unfold dE;rw[if_neg (by omega)]
    rw[e1,e2,e3];exact⟨fun _=> .inl ⟨rfl,by simp,rfl⟩,by simp,Nat.le_refl _⟩
   by_cases h0:a.tag=10
   ·have e1:gI F0 a S S1=S.length:=by unfold gI;rw[if_pos (.inr h0)]
    have e2:bO F0 a S=S++[(2,a.npos)]:=by unfold bO;rw[if_neg h2,if_pos h0]
    have e3:dE a S1=S1:=by unfold dE;rw[if_neg (by omega)]
    rw[e1,e2,e3];exact⟨fun _=> .inl ⟨rfl,by simp,rfl⟩,by simp,Nat.le_refl _⟩
   by_cases h3:a.tag=3
   ·have e1:gI F0 a S S1=if 0 < mG F0 a.which then(S.length:Int)else -1:=by unfold gI;rw[if_neg (by omega),if_pos h3]
    have e2:bO F0 a S=if 0 < mG F0 a.which then S++[(4,a.npos)]else S:=by unfold bO;rw[if_neg h2,if_neg h0,if_pos h3]
    have e3:dE a S1=S1:=by unfold dE;rw[if_neg (by omega)]
    rw[e1,e2,e3]
    by_cases hn:0 < mG F0 a.which
    ·rw[if_pos hn,if_pos hn];exact⟨fun _=> .inl ⟨rfl,by simp,rfl⟩,by simp,Nat.le_refl _⟩
    ·rw[if_neg hn,if_neg hn];refine⟨fun h=>?_,Nat.le_refl _,Nat.le_refl _⟩;simp[dM,h3]at h
   by_cases h6:a.tag=6
   ·have e1:gI F0 a S S1=if vD a then(S1.length:Int)else -1:=by unfold gI;rw[if_neg (by omega),if_neg h3,if_pos h6]
    have e2:bO F0 a S=S:=by unfold bO;rw[if_neg h2,if_neg h0,if_neg h3]
    have e3:dE a S1=if vD a then S1++[(3,a.pos)]else S1:=by unfold dE;rw[if_pos h6]
    rw[e1,e2,e3];have ho:=h5.op6 h6
    by_cases hd:vD a=true
    ·rw[if_pos hd,if_pos hd];exact⟨fun _=> .inr ⟨rfl,rfl,by simp⟩,Nat.le_refl _,by simp⟩
    ·rw[if_neg hd,if_neg hd];refine⟨fun h=>?_,Nat.le_refl _,Nat.le_refl _⟩;exfalso;simp[vD]at hd;simp[dM,h6]at h;omega
   ·have e2:bO F0 a S=S:=by unfold bO;rw[if_neg h2,if_neg h0,if_neg h3]
    have e3:dE a S1=S1:=by unfold dE;rw[if_neg h6]
    rw[e2,e3];refine⟨fun h=>?_,Nat.le_refl _,Nat.le_refl _⟩;simp[dM,h2,h0,h3,h6]at h
  obtain⟨k1,k2,k3⟩:=key;refine⟨?_,fun k hk=>?_⟩
  ·rw[List.nodup_append];refine⟨?_,?_,fun u hu v hv e=>?_⟩
   ·split
    ·simp
    ·exact List.nodup_nil
   ·rw[List.nodup_append];refine⟨l1,r1,fun u hu v hv e=>?_⟩;have:=l2 u hu;have:=r2 v hv;omega
   ·split at hu
    ·rename_i ho;rw[List.mem_singleton]at hu;rcases List.mem_append.1 hv with hv|hv
     ·have:=l2 v hv;rcases k1 ho with h|h<;>omega
     ·have:=r2 v hv;rcases k1 ho with h|h<;>omega
    ·cases hu
  ·rcases List.mem_append.1 hk with hk|hk
   ·split at hk
    ·rename_i ho;rw[List.mem_singleton]at hk;rcases k1 ho with h|h<;>omega
    ·cases hk
   ·rcases List.mem_append.1 hk with hk|hk
    ·have:=l2 k hk;omega
    ·have:=r2 k hk;omega
theorem yW(k:Nat):∀ L:Tr,(bE L).Nodup->(aF k L).Pairwise (fun a b=>∀ j∈bE a,j ∉ bE b)/\∀ e∈aF k L,(bE e).Nodup/\∀ j∈bE e,j∈bE L:=by
 intro L
 induction L with
 |nil=>intro _;exact⟨.nil,fun _ h=>by cases h⟩
 |node b o a x r _ ih=>
  intro h;obtain⟨nx,nr,nxr,_⟩:=fU h;obtain⟨i1,i2⟩:=ih nr
  by_cases hk:bN x=k
  ·rw[show aF k (.node b o a x r)=x::aF k r from if_pos hk];refine⟨List.pairwise_cons.2 ⟨fun e he j hj h0=>nxr j hj ((i2 e he).2 j h0),i1⟩,fun e he=>?_⟩;rcases List.mem_cons.1 he with rfl|he
   ·exact⟨nx,fun j hj=>fR hj⟩
   ·exact⟨(i2 e he).1,fun j hj=>gK ((i2 e he).2 j hj)⟩
  ·rw[show aF k (.node b o a x r)=aF k r from if_neg hk];exact⟨i1,fun e he=>⟨(i2 e he).1,fun j hj=>gK ((i2 e he).2 j hj)⟩⟩
theorem tW(e:Tr):∀ j∈bE (bG e),j∈bE e:=by
 intro j hj;cases e with
 |nil=>exact hj
 |node b o a l r=>
  cases r with
  |nil=>cases hj
  |node x y z p q=>exact gK (gK hj)
theorem aGV{e:Tr}(h:(bE e).Nodup):(bE (bG e)).Nodup:=by
 cases e with
 |nil=>exact h
 |node b o a l r=>
  cases r with
  |nil=>exact List.nodup_nil
  |node x y z p q=>exact(fU (fU h).2.1).2.1
theorem aKE{e:Tr}{F:Fl}{k:Int}(h:k ∉ bE (bG e)):fnA lens fl e F k=F k:=mP _ _ (Nat.le_refl _) _ _ h
theorem aGK{k:Int}:∀ (L:List Tr) (F:Fl),(∀ e∈L,k ∉ bE (bG e))->(L.foldl (fun F e=>fnA lens fl e F) F) k=F k:=by
 intro L
 induction L with
 |nil=>intro F _;rfl
 |cons x L ih=>
  intro F h;rw[List.foldl_cons,ih _ (fun e he=>h e (List.mem_cons_of_mem _ he)),aKE (h x (List.mem_cons_self ..))]
theorem aKD:∀ (L:List Tr) (F:Fl),L.Pairwise (fun a b=>∀ j∈bE a,j ∉ bE b)->∀ e∈L,∃ F1,∀ k∈bE (bG e),(L.foldl (fun F e=>fnA lens fl e F) F) k=fnA lens fl e F1 k:=by
 intro L
 induction L with
 |nil=>intro F _ e h;cases h
 |cons x L ih=>
  intro F hp e he;obtain⟨h1,h2⟩:=List.pairwise_cons.1 hp;rw[List.foldl_cons];rcases List.mem_cons.1 he with rfl|he
  ·exact⟨F,fun k hk=>aGK L _ (fun u hu h0=>h1 u hu k (tW _ _ hk) (tW _ _ h0))⟩
  ·exact ih _ h2 e he
theorem aJO{p:Tr}(hw:Ws 5 p)(h:aD p=0)(vars:Nat->Int):tkW vars p=true:=by
 rcases hw.lst (.inr (.inr (.inl rfl)))with rfl|⟨b,o,a,l,rfl,h20,hl⟩
 ·rfl
 ·cases l with
  |nil=>
   unfold tkW;rw[if_pos h20];rfl
  |node b2 o2 a2 l2 q2=>exact absurd (show aO q2+1=0 from h) (by omega)
theorem aTS{fl':List Tr}(hw:∀ k:Int,Ws 5 (aU (fl'.getD k.toNat .nil)))(hn:∀ k:Int,mG F0 k=0->aD (aU (fl'.getD k.toNat .nil))=0):∀ (t:Tr) (S:Sl),tZ fl' (siT F0 t S):=by
 intro t
 induction t with
 |nil=>intro S;trivial
 |node b o a l r ihl ihr=>
  intro S;refine⟨ihl _,ihr _,fun h3 hs vars=>aJO (hw _) ?_ vars,fun _=>hw _⟩;apply hn;have h3:a.tag=3:=h3;have hs:gI F0 a S (siR F0 l (bO F0 a S))= -1:=hs;unfold gI at hs;rw[if_neg (by omega),if_pos h3]at hs
  by_cases h0:0 < mG F0 a.which
  ·rw[if_pos h0]at hs;omega
  ·show mG F0 a.which=0;omega
end Go.Proofs.YtikffmloeifkpaaGreatDoor
