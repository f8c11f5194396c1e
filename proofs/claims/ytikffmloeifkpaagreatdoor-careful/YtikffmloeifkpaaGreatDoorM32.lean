/- Contracts. -/
import Derived.Test.YtikffmloeifkpaaGreatDoorM28
import Derived.Test.YtikffmloeifkpaaGreatDoorM31
namespace Go.Proofs.YtikffmloeifkpaaGreatDoor
open Go.RowKit Go.Lib Go.Deep
variable {lens:Nat->Int} {fl:List Tr}
def InL:List Rg->List Int->Prop
 |[],[]=>True
 |r::R,v::V=>inR r v/\InL R V
 |_,_=>False
theorem InL.app:∀ {R S:List Rg} {V U:List Int},InL R V->InL S U->InL (R++S) (V++U):=by
 intro R
 induction R with
 |nil=>intro S V U h k;cases V with
  |nil=>exact k
  |cons=>exact h.elim
 |cons r R ih=>intro S V U h k;cases V with
  |nil=>exact h.elim
  |cons v V=>exact⟨h.1,ih h.2 k⟩
theorem InL.hd{R:List Rg}{V:List Int}(h:InL R V):inR (hdR R) (YtikffmloeifkpaaGreatDoor.hd V):=by
 cases R with
 |nil=>cases V with
  |nil=>exact⟨Int.le_refl _,Int.le_refl _⟩
  |cons=>exact h.elim
 |cons r R=>cases V with
  |nil=>exact h.elim
  |cons v V=>exact h.1
theorem InL.args:∀ {R:List Rg} {V:List Int},InL R V->∀ i,inR (nY R i) (cI V i):=by
 intro R
 induction R with
 |nil=>intro V h i;cases V with
  |nil=>exact⟨Int.le_refl _,Int.le_refl _⟩
  |cons=>exact h.elim
 |cons r R ih=>intro V h i;cases V with
  |nil=>exact h.elim
  |cons v V=>cases i with
   |zero=>exact h.1
   |succ i=>exact ih h.2 i
def OkL(R:List Rg):Prop:=∀ r∈R,bV r
def I6(V:List Int):Prop:=∀ v∈V,i64 v
theorem bV.zero:bV (0,0):=⟨by decide,by decide,by decide⟩
theorem OkL.hd{R:List Rg}(h:OkL R):bV (hdR R):=by
 cases R with
 |nil=>exact bV.zero
 |cons r R=>exact h r (List.mem_cons_self ..)
theorem I6.hd{V:List Int}(h:I6 V):i64 (YtikffmloeifkpaaGreatDoor.hd V):=by
 cases V with
 |nil=>exact⟨by decide,by decide⟩
 |cons v V=>exact h v (List.mem_cons_self ..)
theorem OkL.one{r:Rg}(h:bV r):OkL [r]:=fun x hx=>by rw[List.mem_singleton.1 hx];exact h
theorem I6.one{v:Int}(h:i64 v):I6 [v]:=fun x hx=>by rw[List.mem_singleton.1 hx];exact h
theorem aG7{op:Int}{a b:Rg}{x y:Int}(ho:21<=op/\op<=26)(h:qL op a b=true)(hx:inR a x)(hy:inR b y):jV op x y=true:=by
 obtain⟨x1,x2⟩:=hx;obtain⟨y1,y2⟩:=hy;have hc:op=21\/op=22\/op=23\/op=24\/op=25\/op=26:=by omega
 rcases hc with rfl|rfl|rfl|rfl|rfl|rfl
 ·simp[qL,eH]at h;obtain⟨h1,h2⟩:=h;subst h2;simp[jV];omega
 ·have h2:iU (jP a b)=true:=h;unfold iU jP at h2;rw[decide_eq_true_eq]at h2;dsimp only at h2;show decide (x≠y)=true;rw[decide_eq_true_eq];omega
 ·simp[qL]at h;simp[jV];omega
 ·simp[qL]at h;simp[jV];omega
 ·simp[qL]at h;simp[jV];omega
 ·simp[qL]at h;simp[jV];omega
structure SI(Fg:Fl)(r:Rn):Prop where
 arr:∀ i,i64 (r.arr i)
 sd:r.fin=2->Fg r.site=false
 no:r.fin≠2->r.site= -1
theorem SI.trap{Fg:Fl}{r:Rn}{s:Int}(h:SI Fg r)(hs:r.fin=0->Fg s=false):SI Fg (r.trap s):=by
 unfold Rn.trap
 split
 ·rename_i h0;exact⟨h.arr,fun _=>hs h0,fun k=>absurd rfl k⟩
 ·exact h
theorem SI.stop{Fg:Fl}{r:Rn}{e:Int}(h:SI Fg r)(he:e≠2):SI Fg (r.stop e):=by
 unfold Rn.stop
 split
 ·rename_i h0;exact⟨h.arr,fun k=>absurd k he,fun _=>h.no (by omega)⟩
 ·exact h
theorem SI.burn{Fg:Fl}{r:Rn}(h:SI Fg r):SI Fg r.burn:=by
 unfold Rn.burn
 split
 ·exact h.stop (by decide)
 split
 ·exact⟨h.arr,h.sd,h.no⟩
 ·exact h
theorem SI.out{Fg:Fl}{r:Rn}(h:SI Fg r)(v:Int):SI Fg (r.out v):=by
 unfold Rn.out
 split
 ·exact⟨h.arr,h.sd,h.no⟩
 ·exact h
theorem aD8{vs:Vr}{vars:Nat->Int}(h:∀ i,inR (vs i) (vars i)):∀ (t:Tr) (s:Nat),s=5\/s=15->Ws s t->eU vs t=true->tkW vars t=true:=by
 intro t
 induction t with
 |nil=>intro s _ _ _;rfl
 |node b o a e q ihe ihq=>
  intro s hs hw ht;obtain⟨_,x,y,h4,h5,k0⟩:=hw.parts
  by_cases t20:a.tag=20
  ·have:x=15:=by
    rcases hs with rfl|rfl<;>simp[sig,t20]at h4<;>omega
   subst this;show(if a.tag=20 then tkW vars e else _)=true;rw[if_pos t20];refine ihe 15 (.inr rfl) h5 ?_;have h2:(if a.tag=20 then eU vs e else _)=true:=ht
   rwa [if_pos t20]at h2
  ·have h6:x=20/\y=15:=by
    rcases hs with rfl|rfl<;>simp[sig,t20]at h4<;>omega
   obtain⟨rfl,rfl⟩:=h6;show(if a.tag=20 then tkW vars e else _)=true;rw[if_neg t20];have h2:(if a.tag=20 then eU vs e else _)=true:=ht;rw[if_neg t20]at h2;cases e with
   |nil=>exact absurd h2 (by simp)
   |node b2 o2 c p z=>
    dsimp only at h2;rw[Bool.and_eq_true]at h2;obtain⟨k4,x2,y2,h3,k1,h9⟩:=h5.parts
    have t7:c.tag=7:=by
     by_cases h7:c.tag=7
     ·exact h7
     ·simp[sig,h7]at h3
    have h8:x2=21/\y2=21:=by simp[sig,t7]at h3;omega
    obtain⟨rfl,rfl⟩:=h8
    have atom:∀ {u:Tr},Ws 21 u->∀ r,inR (iK vs u) (YtikffmloeifkpaaGreatDoor.hd (exW (fun _=>0) (fun _ _ _ r=>(0,r)) vars u r).1):=by
     intro u hu r;cases u with
     |nil=>exact absurd hu (by simp[Ws,bK])
     |node b3 o3 d l3 q3=>
      obtain⟨_,x3,y3,k2,_,_⟩:=hu.parts
      have hd:d.tag<=1:=by
       by_cases h1:d.tag<=1
       ·exact h1
       ·simp[sig,h1]at k2
      by_cases h0:d.tag=0
      ·show inR (if d.tag=0 then _ else _) (YtikffmloeifkpaaGreatDoor.hd (if d.tag=0 then _ else _:List Int × Rn).1);rw[if_pos h0,if_pos h0];exact inR.one _
      ·show inR (if d.tag=0 then _ else _) (YtikffmloeifkpaaGreatDoor.hd (if d.tag=0 then _ else _:List Int × Rn).1);rw[if_neg h0,if_neg h0,if_pos (by omega)];exact h _
    have k3:=k4.op7 t7;have hh:=aG7 k3 h2.1 (atom k1 ⟨fun _=>0,0,0,0,0,[]⟩) (atom h9 (exW (fun _=>0) (fun _ _ _ r=>(0,r)) vars p ⟨fun _=>0,0,0,0,0,[]⟩).2);rw[Bool.and_eq_true];refine⟨?_,ihq 15 (.inr rfl) k0 h2.2⟩;show(if c.tag=7 then _ else _:Bool × Rn).1=true;rw[if_pos t7];exact hh
end Go.Proofs.YtikffmloeifkpaaGreatDoor
namespace Go.Proofs.YtikffmloeifkpaaGreatDoor
open Go.RowKit Go.Lib Go.Deep
variable {lens:Nat->Int} {fl:List Tr} {C:Cl} {vars:Nat->Int} {vs:Vr} {Fg:Fl} {alive:Bool}
theorem aO6{b o:Nat}{a:Nd}{l q:Tr}{r:Rn}(ht:a.tag=0):exW lens C vars (.node b o a l q) r=([a.val],r):=by
 show(if a.tag=0 then _ else _)=_;rw[if_pos ht]
theorem aI3{b o:Nat}{a:Nd}{l q:Tr}{r:Rn}(ht:a.tag=1):exW lens C vars (.node b o a l q) r=([vars a.which.toNat],r):=by
 show(if a.tag=0 then _ else _)=_;rw[if_neg (by omega),if_pos (by omega)]
theorem aRU{b o:Nat}{a:Nd}{l q:Tr}{r:Rn}(ht:a.tag=2):exW lens C vars (.node b o a l q) r=(if fI lens a.which (hd (exW lens C vars l r).1)then([(exW lens C vars l r).2.arr (gH a.which (hd (exW lens C vars l r).1))],(exW lens C vars l r).2)else([0],(exW lens C vars l r).2.trap a.site)):=by
 show(if a.tag=0 then _ else _)=_;rw[if_neg (by omega),if_neg (by omega),if_pos (by omega)]
theorem aRT{b o:Nat}{a:Nd}{l q:Tr}{r:Rn}(ht:a.tag=3):exW lens C vars (.node b o a l q) r=([(C a.which (exW lens C vars l r).1 a.site (exW lens C vars l r).2).1],(C a.which (exW lens C vars l r).1 a.site (exW lens C vars l r).2).2):=by
 show(if a.tag=0 then _ else _)=_;rw[if_neg (by omega),if_neg (by omega),if_neg (by omega),if_pos (by omega)]
theorem aI2{b o:Nat}{a:Nd}{l q:Tr}{r:Rn}(ht:a.tag=4\/a.tag=20):exW lens C vars (.node b o a l q) r=(exW lens C vars l r):=by
 show(if a.tag=0 then _ else _)=_;rw[if_neg (by omega),if_neg (by omega),if_neg (by omega),if_neg (by omega),if_pos ht]
theorem aRS{b o:Nat}{a:Nd}{l q:Tr}{r:Rn}(ht:a.tag=5):exW lens C vars (.node b o a l q) r=([w64 (-hd (exW lens C vars l r).1)],(exW lens C vars l r).2):=by
 show(if a.tag=0 then _ else _)=_;rw[if_neg (by omega),if_neg (by omega),if_neg (by omega),if_neg (by omega),if_neg (by omega),if_pos (by omega)]
theorem aEL{b o:Nat}{a:Nd}{l q:Tr}{r:Rn}(ht:a.tag=6):exW lens C vars (.node b o a l q) r=(if 30<=a.op/\hd (exW lens C vars q (exW lens C vars l r).2).1=0 then([0],(exW lens C vars q (exW lens C vars l r).2).2.trap a.site)else([rJ a.op (hd (exW lens C vars l r).1) (hd (exW lens C vars q (exW lens C vars l r).2).1)],(exW lens C vars q (exW lens C vars l r).2).2)):=by
 show(if a.tag=0 then _ else _)=_;rw[if_neg (by omega),if_neg (by omega),if_neg (by omega),if_neg (by omega),if_neg (by omega),if_neg (by omega),if_pos (by omega)]
theorem aO5{b o:Nat}{a:Nd}{l q:Tr}{r:Rn}(ht:a.tag=15):exW lens C vars (.node b o a l q) r=((exW lens C vars l r).1++(exW lens C vars q (exW lens C vars l r).2).1,(exW lens C vars q (exW lens C vars l r).2).2):=by
 show(if a.tag=0 then _ else _)=_;rw[if_neg (by omega),if_neg (by omega),if_neg (by omega),if_neg (by omega),if_neg (by omega),if_neg (by omega),if_neg (by omega),if_pos ht]
theorem aT2{b o:Nat}{a:Nd}{l q:Tr}{r:Rn}(ht:7<=a.tag/\a.tag≠15/\a.tag≠20):exW lens C vars (.node b o a l q) r=([],r):=by
 show(if a.tag=0 then _ else _)=_;rw[if_neg (by omega),if_neg (by omega),if_neg (by omega),if_neg (by omega),if_neg (by omega),if_neg (by omega),if_neg (by omega),if_neg (by omega)]
def CS(par:Nat->Option Nat)(Fg:Fl)(fl:List Tr)(C:Cl):Prop:=∀ k l s r,par k.toNat=some l.length->SI Fg r->I6 l->(r.fin=0->tkW (cI l) (aU (fl.getD k.toNat .nil))=true\/Fg s=false)->i64 (C k l s r).1/\SI Fg (C k l s r).2
def tZ(fl:List Tr):Tr->Prop
 | .nil=>True
 | .node _ _ a l q=>tZ fl l/\tZ fl q/\(a.tag=3->a.site= -1->∀ vars,tkW vars (aU (fl.getD a.which.toNat .nil))=true)/\(a.tag=3->Ws 5 (aU (fl.getD a.which.toNat .nil)))
theorem sN(op:Int){a b:Int}(ha:i64 a):i64 (rJ op a b):=by
 unfold rJ
 split
 ·exact gU _
 split
 ·exact gU _
 split
 ·exact gU _
 split
 ·exact gU _
 ·have l1:(a.tmod b).natAbs=a.natAbs % b.natAbs:=Int.natAbs_tmod a b;have l3:a.natAbs % b.natAbs<=a.natAbs:=Nat.mod_le _ _
  have s2:a<=0->a.tmod b<=0:=fun h=>by
   have:=Int.tmod_nonneg b (show 0<=-a by omega);rw[Int.neg_tmod]at this;omega
  unfold i64 at*;omega
theorem fU{b o:Nat}{a:Nd}{l q:Tr}(h:(bE (.node b o a l q)).Nodup):(bE l).Nodup/\(bE q).Nodup/\(∀ k∈bE l,k ∉ bE q)/\(dM a=true->a.site ∉ bE l/\a.site ∉ bE q):=by
 unfold bE at h;rw[List.nodup_append]at h;obtain⟨_,h2,h3⟩:=h;rw[List.nodup_append]at h2;obtain⟨h4,h5,h6⟩:=h2;refine⟨h4,h5,fun k h7 h8=>h6 k h7 k h8 rfl,fun ho=>?_⟩;rw[if_pos ho]at h3;exact⟨fun h7=>h3 a.site (List.mem_singleton.2 rfl) a.site (List.mem_append_left _ h7) rfl,fun h7=>h3 a.site (List.mem_singleton.2 rfl) a.site (List.mem_append_right _ h7) rfl⟩
theorem pG{b o:Nat}{a:Nd}{l q:Tr}(h:dM a=true):a.site∈bE (.node b o a l q):=by
 unfold bE;rw[if_pos h];exact List.mem_append_left _ (List.mem_singleton.2 rfl)
theorem fR{b o:Nat}{a:Nd}{l q:Tr}{k:Int}(h:k∈bE l):k∈bE (.node b o a l q):=List.mem_append_right _ (List.mem_append_left _ h)
theorem gK{b o:Nat}{a:Nd}{l q:Tr}{k:Int}(h:k∈bE q):k∈bE (.node b o a l q):=List.mem_append_right _ (List.mem_append_right _ h)
structure ExS(Fg:Fl)(x:List Rg × Fl)(y:List Int × Rn):Prop where
 ok:OkL x.1
 num:I6 y.1
 si:SI Fg y.2
 on:y.2.fin=0->InL x.1 y.1
theorem dead{b:Bool}(h:b=true):(!b)=false:=by rw[h];rfl
theorem aR1:∀ (t:Tr) (r:Rn),(Ws 0 t->(exW lens C vars t r).1.length=1)/\(Ws 13 t->(exW lens C vars t r).1.length=aO t)/\(Ws 3 t->(exW lens C vars t r).1.length=aD t):=by
 intro t
 induction t with
 |nil=>intro r;exact⟨fun h=>absurd h (by simp[Ws,bK]),fun _=>rfl,fun _=>rfl⟩
 |node b o a l q ihl ihq=>
  intro r;refine⟨fun hw=>?_,fun hw=>?_,fun hw=>?_⟩
  ·obtain⟨_,x,y,h0,h1,_⟩:=hw.parts
   have h6:a.tag<=6:=by
    by_cases h:a.tag<=6
    ·exact h
    ·exfalso;unfold sig at h0;rw[if_pos rfl,if_neg (by omega),if_neg (by omega),if_neg (by omega),if_neg (by omega),if_neg (by omega)]at h0;cases h0
   by_cases t0:a.tag=0
   ·rw[aO6 t0];rfl
   by_cases t1:a.tag=1
   ·rw[aI3 t1];rfl
   by_cases t2:a.tag=2
   ·rw[aRU t2];split<;>rfl
   by_cases t3:a.tag=3
   ·rw[aRT t3];rfl
   by_cases t4:a.tag=4
   ·rw[aI2 (.inl t4)];have:x=0:=by simp[sig,t4]at h0;omega
    subst this;exact(ihl r).1 h1
   by_cases t5:a.tag=5
   ·rw[aRS t5];rfl
   ·rw[aEL (by omega)];split<;>rfl
  ·obtain⟨_,x,y,h0,h1,h3⟩:=hw.parts
   have t15:a.tag=15:=by
    by_cases h:a.tag=15
    ·exact h
    ·simp[sig,h]at h0
   have h2:x=0/\y=13:=by simp[sig,t15]at h0;omega
   obtain⟨rfl,rfl⟩:=h2;rw[aO5 t15];show(_++_:List Int).length=aO q+1;rw[List.length_append,(ihl r).1 h1,(ihq _).2.1 h3];omega
  ·obtain⟨_,x,y,h0,h1,_⟩:=hw.parts
   have t20:a.tag=20:=by
    by_cases h:a.tag=20
    ·exact h
    ·simp[sig,h]at h0
   have hx:x=13:=by simp[sig,t20]at h0;omega
   subst hx;rw[aI2 (.inr t20)];exact(ihl r).2.1 h1
theorem lR{par:Nat->Option Nat}{na:Nat}(hC:CS par Fg fl C)(hG:CGr C)(k3:∀ i,bV (vs i))(hv:∀ i,i64 (vars i)):∀ (t:Tr) (s:Nat) (F:Fl) (r:Rn),Ws s t->Vd par na 12 t->tZ fl t->(bE t).Nodup->(∀ k∈bE t,Fg k=(exA lens fl alive vs t F).2 k)->SI Fg r->(r.fin=0->alive=true/\∀ i,i < 12->inR (vs i) (vars i))->
 ExS Fg (exA lens fl alive vs t F) (exW lens C vars t r):=by
 intro t
 induction t with
 |nil=>intro s F r _ _ _ _ _ h _;exact⟨fun _ h=>(by cases h),fun _ h=>(by cases h),h,fun _=>trivial⟩
 |node b o a l q ihl ihq=>
  intro s F r hw k4 k5 k6 h7 h8 h4;obtain⟨k0,x,y,h5,h9,k2⟩:=hw.parts;obtain⟨vl,vq,v1,v2,v3⟩:=k4;obtain⟨sl,sq,s1,s2⟩:=k5;obtain⟨nl,nq,nlq,nown⟩:=fU k6
  have part1:(∀ k∈bE l,(exA lens fl alive vs (.node b o a l q) F).2 k=(exA lens fl alive vs l F).2 k)->ExS Fg (exA lens fl alive vs l F) (exW lens C vars l r):=fun h=>
   ihl x F r h9 vl sl nl (fun k hk=>(h7 k (fR hk)).trans (h k hk)) h8 h4
  have gr1:=oX (lens:=lens) (vars:=vars) hG l r
  have live1:(exW lens C vars l r).2.fin=0->r.fin=0:=fun h=>by
   by_cases h0:r.fin=0
   ·exact h0
   ·rw[(gr1.dead h0).1]at h;exact absurd h h0
  by_cases t0:a.tag=0
  ·rw[aBA t0,aO6 t0];have hb:=k0.val (.inl t0);have k1:i64 a.val:=⟨by omega,by omega⟩;exact⟨OkL.one (bV.one k1),I6.one k1,h8,fun _=>⟨inR.one _,trivial⟩⟩
  by_cases t1:a.tag=1
  ·rw[aB9 t1,aI3 t1];have hb:=v1 (.inl t1);exact⟨OkL.one (k3 _),I6.one (hv _),h8,fun h=>⟨(h4 h).2 _ (by omega),trivial⟩⟩
  by_cases t2:a.tag=2
  ·have ho:dM a=true:=by simp[dM,t2]
   have hs:=h7 a.site (pG ho)
   obtain⟨p1,p2,p3,p4⟩:=part1 (fun k hk=>by
    rw[zT t2];exact kU _ _ (fun e=>(nown ho).1 (e ▸ hk)))
   rw[zT t2]at hs;rw[zT t2,aRU t2];have h6:=hs.trans (uD _ _ _)
   by_cases h3:fI lens a.which (hd (exW lens C vars l r).1)=true
   ·rw[if_pos h3];exact⟨OkL.one bV.all,I6.one (p3.arr _),p3,fun _=>⟨inR.all (p3.arr _),trivial⟩⟩
   ·rw[if_neg h3];refine⟨OkL.one bV.all,I6.one ⟨by decide,by decide⟩,p3.trap (fun h0=>?_),fun _=>⟨⟨by decide,by decide⟩,trivial⟩⟩;obtain⟨g1,g2⟩:=(p4 h0).hd;rw[h6,dead (h4 (live1 h0)).1];simp only[Bool.or_false,Bool.and_eq_false_iff,decide_eq_false_iff_not];unfold fI at h3;simp only[Bool.and_eq_true,decide_eq_true_eq]at h3;omega
  by_cases t3:a.tag=3
  ·obtain⟨p1,p2,p3,p4⟩:=part1 (fun k hk=>by
    rw[xE t3]
    by_cases h1:a.site= -1
    ·rw[if_pos h1]
    ·have ho:dM a=true:=by simp[dM,t3,h1]
     rw[if_neg h1];exact kU _ _ (fun e=>(nown ho).1 (e ▸ hk)))
   obtain⟨c1,c2⟩:=hC a.which (exW lens C vars l r).1 a.site (exW lens C vars l r).2 (by rw[(v3 t3).2,(aR1 l r).2.2 (by have hx:x=3:=by {simp[sig,t3]at h5;rcases h5 with h|h<;>omega};subst hx;exact h9)]) p3 p2 (fun h0=>by
    by_cases h1:a.site= -1
    ·exact .inl (s1 t3 h1 _)
    ·have ho:dM a=true:=by simp[dM,t3,h1]
     have hs:=h7 a.site (pG ho);rw[xE t3,if_neg h1]at hs;have h6:=hs.trans (uD _ _ _);cases htk:eU (nY (exA lens fl alive vs l F).1) (aU (fl.getD a.which.toNat .nil))
     ·right;rw[h6,dead (h4 (live1 h0)).1,htk];rfl
     ·left;exact aD8 (p4 h0).args _ 5 (.inl rfl) (s2 t3) htk)
   rw[xE t3,aRT t3];exact⟨OkL.one bV.all,I6.one c1,c2,fun _=>⟨inR.all c1,trivial⟩⟩
  by_cases t4:a.tag=4\/a.tag=20
  ·have h:=part1 (fun k hk=>by rw[zS t4]);rw[zS t4,aI2 t4];exact h
  by_cases t5:a.tag=5
  ·obtain⟨p1,p2,p3,p4⟩:=part1 (fun k hk=>by rw[aB8 t5]);rw[aB8 t5,aRS t5];exact⟨OkL.one p1.hd.neg,I6.one (gU _),p3,fun h=>⟨inR.neg p1.hd (p4 h).hd,trivial⟩⟩
  have part2:(∀ k∈bE l,(exA lens fl alive vs (.node b o a l q) F).2 k=(exA lens fl alive vs l F).2 k)->(∀ k∈bE q,(exA lens fl alive vs (.node b o a l q) F).2 k=(exA lens fl alive vs q (exA lens fl alive vs l F).2).2 k)->ExS Fg (exA lens fl alive vs l F) (exW lens C vars l r)/\ExS Fg (exA lens fl alive vs q (exA lens fl alive vs l F).2) (exW lens C vars q (exW lens C vars l r).2):=fun h1 h2=>by
   have e1:=part1 h1;exact⟨e1,ihq y _ _ k2 vq sq nq (fun k hk=>(h7 k (gK hk)).trans (h2 k hk)) e1.si (fun h0=>h4 (live1 h0))⟩
  have gr2:=oX (lens:=lens) (vars:=vars) hG q (exW lens C vars l r).2
  have live2:(exW lens C vars q (exW lens C vars l r).2).2.fin=0->(exW lens C vars l r).2.fin=0:=fun h=>by
   by_cases h0:(exW lens C vars l r).2.fin=0
   ·exact h0
   ·rw[(gr2.dead h0).1]at h;exact absurd h h0
  have oth:∀ k∈bE l,(exA lens fl alive vs q (exA lens fl alive vs l F).2).2 k=(exA lens fl alive vs l F).2 k:=fun k hk=>gS q _ (nlq k hk)
  by_cases t6:a.tag=6
  ·have hop:=k0.op6 t6
   by_cases o1:a.op=27
   ·obtain⟨⟨p1,p2,p3,p4⟩,r1,r2,r3,r4⟩:=part2 (fun k hk=>by rw[tR t6 o1];exact oth k hk) (fun k hk=>by rw[tR t6 o1]);rw[tR t6 o1,aEL t6,if_neg (by omega)];refine⟨OkL.one (p1.hd.plus r1.hd),I6.one (sN _ p2.hd),r3,fun h=>⟨?_,trivial⟩⟩;rw[o1];exact inR.plus p1.hd r1.hd (p4 (live2 h)).hd (r4 h).hd
   by_cases o2:a.op=28
   ·obtain⟨⟨p1,p2,p3,p4⟩,r1,r2,r3,r4⟩:=part2 (fun k hk=>by rw[tS t6 o2];exact oth k hk) (fun k hk=>by rw[tS t6 o2]);rw[tS t6 o2,aEL t6,if_neg (by omega)];refine⟨OkL.one (p1.hd.minus r1.hd),I6.one (sN _ p2.hd),r3,fun h=>⟨?_,trivial⟩⟩;rw[o2];exact inR.minus p1.hd r1.hd (p4 (live2 h)).hd (r4 h).hd
   by_cases o3:a.op=29
   ·obtain⟨⟨p1,p2,p3,p4⟩,r1,r2,r3,r4⟩:=part2 (fun k hk=>by rw[tQ t6 o3];exact oth k hk) (fun k hk=>by rw[tQ t6 o3]);rw[tQ t6 o3,aEL t6,if_neg (by omega)];refine⟨OkL.one (p1.hd.times r1.hd),I6.one (sN _ p2.hd),r3,fun h=>⟨?_,trivial⟩⟩;rw[o3];exact inR.times p1.hd r1.hd (p4 (live2 h)).hd (r4 h).hd
   ·have ho:dM a=true:=by simp[dM,t6,o1,o2,o3]
    have hs:=h7 a.site (pG ho)
    obtain⟨⟨p1,p2,p3,p4⟩,r1,r2,r3,r4⟩:=part2
     (fun k hk=>by rw[qH t6 ⟨o1,o2,o3⟩];exact(kU _ _ (fun e=>(nown ho).1 (by rw[<-e];exact hk))).trans (oth k hk))
     (fun k hk=>by rw[qH t6 ⟨o1,o2,o3⟩];exact kU _ _ (fun e=>(nown ho).2 (by rw[<-e];exact hk)))
    rw[qH t6 ⟨o1,o2,o3⟩]at hs;have h6:=hs.trans (uD _ _ _)
    have okd:bV (if a.op=30 then iQ (hdR (exA lens fl alive vs l F).1) (hdR (exA lens fl alive vs q (exA lens fl alive vs l F).2).1)else iO (hdR (exA lens fl alive vs l F).1) (hdR (exA lens fl alive vs q (exA lens fl alive vs l F).2).1)):=by
     split
     ·exact p1.hd.over r1.hd
     ·exact bV.rest r1.hd
    rw[aEL t6]
    by_cases hz:hd (exW lens C vars q (exW lens C vars l r).2).1=0
    ·rw[if_pos ⟨by omega,hz⟩,qH t6 ⟨o1,o2,o3⟩];refine⟨OkL.one okd,I6.one ⟨by decide,by decide⟩,r3.trap (fun h0=>?_),fun h=>absurd h ?_⟩
     ·have g:=(r4 h0).hd;rw[hz]at g;rw[h6,dead (h4 (live1 (live2 h0))).1];simp only[Bool.or_false,Bool.not_eq_false'];exact decide_eq_true g
     ·unfold Rn.trap
      split
      ·dsimp only;decide
      ·assumption
    ·rw[if_neg (fun h=>hz h.2),qH t6 ⟨o1,o2,o3⟩];refine⟨OkL.one okd,I6.one (sN _ p2.hd),r3,fun h=>⟨?_,trivial⟩⟩;have g1:=(p4 (live2 h)).hd;have g2:=(r4 h).hd
     by_cases o4:a.op=30
     ·rw[if_pos o4,o4];exact inR.over p1.hd r1.hd g1 g2
     ·have o5:a.op=31:=by omega
      rw[if_neg o4,o5];exact inR.rest r1.hd g1 g2 p2.hd
  by_cases t15:a.tag=15
  ·obtain⟨⟨p1,p2,p3,p4⟩,r1,r2,r3,r4⟩:=part2 (fun k hk=>by rw[wM t15];exact oth k hk) (fun k hk=>by rw[wM t15]);rw[wM t15,aO5 t15];refine⟨fun z hz=>?_,fun z hz=>?_,r3,fun h=>(p4 (live2 h)).app (r4 h)⟩
   ·rcases List.mem_append.1 hz with h|h
    ·exact p1 z h
    ·exact r1 z h
   ·rcases List.mem_append.1 hz with h|h
    ·exact p2 z h
    ·exact r2 z h
  ·rw[aGN ⟨by omega,t15,by omega⟩,aT2 ⟨by omega,t15,by omega⟩];exact⟨fun _ h=>(by cases h),fun _ h=>(by cases h),h8,fun _=>trivial⟩
end Go.Proofs.YtikffmloeifkpaaGreatDoor
namespace Go.Proofs.YtikffmloeifkpaaGreatDoor
open Go.RowKit Go.Lib Go.Deep
variable {lens:Nat->Int} {fl:List Tr} {C:Cl} {vars:Nat->Int} {Fg:Fl}
def OkS(s:St):Prop:=∀ vs,s=some vs->∀ i,bV (vs i)
def InS(s:St)(vars:Nat->Int):Prop:=∃ vs,s=some vs/\∀ i,i < 12->inR (vs i) (vars i)
theorem OkS.some{vs:Vr}(h:∀ i,bV (vs i)):OkS (some vs):=fun v e=>by cases e;exact h
theorem OkS.none:OkS none:=fun v e=>by cases e
theorem OkS.vs{s:St}(h:OkS s):∀ i,bV (cC s i):=by
 cases s with
 |none=>exact fun _=>bV.zero
 |some vs=>exact h vs rfl
theorem InS.alive{s:St}(h:InS s vars):s.isSome=true/\∀ i,i < 12->inR (cC s i) (vars i):=by
 obtain⟨vs,rfl,h2⟩:=h;exact⟨rfl,h2⟩
theorem OkS.upd{vs:Vr}(h:∀ i,bV (vs i))(k:Nat){r:Rg}(hr:bV r):OkS (Option.some (oT vs k r)):=OkS.some fun i=>by
 show bV (if i=k then r else vs i)
 split
 ·exact hr
 ·exact h i
theorem sG{s:St}(h:OkS s)(d:Sd)(lim:Rg):OkS (jY s d lim):=by
 cases s with
 |none=>exact OkS.none
 |some vs=>
  show OkS (if d.2= -1 then _ else _)
  split
  ·exact h
  split
  ·exact OkS.none
  ·rename_i he;exact OkS.upd (h vs rfl) _ ((h vs rfl _).cut (by simpa using he))
theorem sH{s:St}(h:InS s vars){d:Sd}{lim:Rg}(hd:d.2≠-1->inR lim (vars d.2.toNat)/\d.2.toNat < 12):InS (jY s d lim) vars:=by
 obtain⟨vs,rfl,h2⟩:=h;show InS (if d.2= -1 then _ else _) vars
 split
 ·exact⟨vs,rfl,h2⟩
 ·rename_i hn;obtain⟨h3,h4⟩:=hd hn;have h5:=(h2 _ h4).cut h3;rw[if_neg (by rw[aDR h5];decide)];refine⟨_,rfl,fun i hi=>?_⟩;show inR (if i=d.2.toNat then _ else _) _
  split
  ·rename_i e;rw[e];exact h5
  ·exact h2 i hi
structure aCQ(d:Sd)(v:Int)(vars:Nat->Int):Prop where
 ok:bV d.1
 mem:inR d.1 v
 var:d.2≠-1->vars d.2.toNat=v/\d.2.toNat < 12
theorem sJ{s:St}(h:OkS s)(a b:Sd)(far:Int):OkS (jK s a b far):=by
 unfold jK
 split
 ·exact OkS.none
 ·exact sG (sG h _ _) _ _
theorem sK{s:St}(h:InS s vars){a b:Sd}{far x y:Int}(ha:aCQ a x vars)(hb:aCQ b y vars)(hx:x+far<=y)(_hf:0<=far/\far<=1):InS (jK s a b far) vars:=by
 obtain⟨⟨a1,a2,a3⟩,⟨a4,a5⟩,a6⟩:=ha;obtain⟨⟨b1,b2,b3⟩,⟨b4,b5⟩,b6⟩:=hb;unfold jK;rw[if_neg (by omega)];refine sH (sH h fun hn=>?_) fun hn=>?_
 ·obtain⟨e1,e2⟩:=a6 hn;refine⟨?_,e2⟩;rw[e1];exact⟨by show(-9223372036854775808:Int)<=x;omega,by show x<=b.1.2 - far;omega⟩
 ·obtain⟨e1,e2⟩:=b6 hn;refine⟨?_,e2⟩;rw[e1];exact⟨by show a.1.1+far<=y;omega,by show y<=(9223372036854775807:Int);omega⟩
theorem aD3{s:St}(h:OkS s)(a b:Sd):OkS (jA s a b):=by
 unfold jA;dsimp only
 have h1:OkS (if eH b.1=true then jY s a (dS a.1 b.1.1)else s):=by
  split
  ·exact sG h _ _
  ·exact h
 split
 ·exact sG h1 _ _
 ·exact h1
theorem aD4{s:St}(h:InS s vars){a b:Sd}{x y:Int}(ha:aCQ a x vars)(hb:aCQ b y vars)(hx:x≠y):InS (jA s a b) vars:=by
 unfold jA;dsimp only
 have h1:InS (if eH b.1=true then jY s a (dS a.1 b.1.1)else s) vars:=by
  split
  ·rename_i h1;have e:=hb.mem;unfold eH at h1;rw[decide_eq_true_eq]at h1;unfold inR at e;refine sH h fun hn=>?_;obtain⟨e1,e2⟩:=ha.var hn;rw[e1];exact⟨inR.without ha.ok ha.mem (by omega),e2⟩
  ·exact h
 split
 ·rename_i h2;have e:=ha.mem;unfold eH at h2;rw[decide_eq_true_eq]at h2;unfold inR at e;refine sH h1 fun hn=>?_;obtain⟨e1,e2⟩:=hb.var hn;rw[e1];exact⟨inR.without hb.ok hb.mem (by omega),e2⟩
 ·exact h1
theorem nR{s:St}(h:OkS s)(op:Int)(a b:Sd):OkS (jW s op a b):=by
 unfold jW
 split
 ·exact sJ h _ _ _
 split
 ·exact sJ h _ _ _
 split
 ·exact sJ h _ _ _
 split
 ·exact sJ h _ _ _
 split
 ·exact sG (sG h _ _) _ _
 ·exact aD3 h _ _
theorem zG{s:St}(h:InS s vars){op:Int}{a b:Sd}{x y:Int}(ha:aCQ a x vars)(hb:aCQ b y vars)(hx:jV op x y=true):InS (jW s op a b) vars:=by
 unfold jV at hx;unfold jW
 by_cases h3:op=23
 ·rw[if_pos h3]at hx ⊢;rw[decide_eq_true_eq]at hx;exact sK h ha hb (by omega) (by omega)
 rw[if_neg h3]at hx ⊢
 by_cases h2:op=24
 ·rw[if_pos h2]at hx ⊢;rw[decide_eq_true_eq]at hx;exact sK h ha hb (by omega) (by omega)
 rw[if_neg h2]at hx ⊢
 by_cases h1:op=25
 ·rw[if_pos h1]at hx ⊢;rw[decide_eq_true_eq]at hx;exact sK h hb ha (by omega) (by omega)
 rw[if_neg h1]at hx ⊢
 by_cases h0:op=26
 ·rw[if_pos h0]at hx ⊢;rw[decide_eq_true_eq]at hx;exact sK h hb ha (by omega) (by omega)
 rw[if_neg h0]at hx ⊢
 by_cases h4:op=21
 ·rw[if_pos h4]at hx ⊢;rw[decide_eq_true_eq]at hx;subst hx;refine sH (sH h fun hn=>?_) fun hn=>?_
  ·obtain⟨e1,e2⟩:=ha.var hn;rw[e1];exact⟨hb.mem,e2⟩
  ·obtain⟨e1,e2⟩:=hb.var hn;rw[e1];exact⟨ha.mem,e2⟩
 rw[if_neg h4]at hx ⊢;rw[decide_eq_true_eq]at hx;exact aD4 h ha hb hx
theorem aJG{op x y:Int}(ho:21<=op/\op<=26)(h:jV op x y=false):jV (aAB op) x y=true:=by
 have hc:op=21\/op=22\/op=23\/op=24\/op=25\/op=26:=by omega
 rcases hc with rfl|rfl|rfl|rfl|rfl|rfl
 all_goals simp[jV,aAB]at h ⊢
 all_goals omega
theorem nP{s o:St}(h:OkS s)(k:OkS o):OkS (lF s o):=by
 cases o with
 |none=>exact h
 |some t=>
  cases s with
  |none=>exact k
  |some g=>exact OkS.some fun i=>(k t rfl i).meet (h g rfl i)
theorem aC6{s o:St}(h:InS s vars):InS (lF s o) vars:=by
 obtain⟨vs,rfl,h2⟩:=h;cases o with
 |none=>exact⟨vs,rfl,h2⟩
 |some t=>exact⟨_,rfl,fun i hi=>(h2 i hi).meetR⟩
theorem aC5{s o:St}(h:InS o vars):InS (lF s o) vars:=by
 obtain⟨vs,rfl,h2⟩:=h;cases s with
 |none=>exact⟨vs,rfl,h2⟩
 |some t=>exact⟨_,rfl,fun i hi=>(h2 i hi).meetL⟩
theorem wK{alive:Bool}{vs:Vr}(h2:∀ i,bV (vs i)):∀ (t:Tr) (s:Nat) (F:Fl),Ws s t->OkL (exA lens fl alive vs t F).1:=by
 intro t
 induction t with
 |nil=>intro s F _ r h;cases h
 |node b o a l q ihl ihq=>
  intro s F hw;obtain⟨h3,x,y,hsig,h1,h0⟩:=hw.parts;have p1:=ihl x F h1;have p2:=ihq y (exA lens fl alive vs l F).2 h0
  by_cases t0:a.tag=0
  ·rw[aBA t0];have hb:=h3.val (.inl t0);exact OkL.one (bV.one ⟨by omega,by omega⟩)
  by_cases t1:a.tag=1
  ·rw[aB9 t1];exact OkL.one (h2 _)
  by_cases t2:a.tag=2
  ·rw[zT t2];exact OkL.one bV.all
  by_cases t3:a.tag=3
  ·rw[xE t3];exact OkL.one bV.all
  by_cases t4:a.tag=4\/a.tag=20
  ·rw[zS t4];exact p1
  by_cases t5:a.tag=5
  ·rw[aB8 t5];exact OkL.one p1.hd.neg
  by_cases t6:a.tag=6
  ·by_cases o1:a.op=27
   ·rw[tR t6 o1];exact OkL.one (p1.hd.plus p2.hd)
   by_cases o2:a.op=28
   ·rw[tS t6 o2];exact OkL.one (p1.hd.minus p2.hd)
   by_cases o3:a.op=29
   ·rw[tQ t6 o3];exact OkL.one (p1.hd.times p2.hd)
   ·rw[qH t6 ⟨o1,o2,o3⟩];refine OkL.one ?_
    split
    ·exact p1.hd.over p2.hd
    ·exact bV.rest p2.hd
  by_cases t15:a.tag=15
  ·rw[wM t15];intro z hz;rcases List.mem_append.1 hz with h|h
   ·exact p1 z h
   ·exact p2 z h
  ·rw[aGN ⟨by omega,t15,by omega⟩];intro r h;cases h
theorem wO:∀ (t:Tr) (s:St) (F:Fl),Ws 1 t->OkS s->OkS (cdA lens fl t s F).1/\OkS (cdA lens fl t s F).2.1:=by
 intro t
 induction t with
 |nil=>intro s F hw _;exact absurd hw (by simp[Ws,bK])
 |node b o a l q ihl ihq=>
  intro s F hw hs;obtain⟨hok,x,y,h0,h3,h1⟩:=hw.parts;unfold cdA
  by_cases t7:a.tag=7
  ·rw[if_pos t7];exact⟨nR hs _ _ _,nR hs _ _ _⟩
  ·rw[if_neg t7];have h2:x=1/\y=1:=by simp[sig,t7]at h0;omega
   obtain⟨rfl,rfl⟩:=h2;have e1:=ihl s F h3 hs
   split
   ·have e2:=ihq _ (cdA lens fl l s F).2.2 h1 e1.1;exact⟨e2.1,nP e1.2 e2.2⟩
   ·have e2:=ihq _ (cdA lens fl l s F).2.2 h1 e1.2;exact⟨nP e1.1 e2.1,e2.2⟩
theorem aDG{par:Nat->Option Nat}{na:Nat}:∀ (t:Tr) (r:Rn),Vd par na 12 t->cV t≠-1->(cV t).toNat < 12/\(exW lens C vars t r).1=[vars (cV t).toNat]:=by
 intro t
 induction t with
 |nil=>intro r _ h;exact absurd rfl h
 |node b o a l q ihl _=>
  intro r hv h;obtain⟨vl,_,v1,_,_⟩:=hv
  by_cases t4:a.tag=4
  ·have e:cV (.node b o a l q)=cV l:=by show(if a.tag=4 then _ else _)=_;rw[if_pos t4]
   rw[e]at h ⊢;rw[aI2 (.inl t4)];exact ihl r vl h
  ·by_cases t1:a.tag=1
   ·have e:cV (.node b o a l q)=a.which:=by show(if a.tag=4 then _ else _)=_;rw[if_neg t4,if_pos t1]
    rw[e,aI3 t1];have:=v1 (.inl t1);exact⟨by omega,rfl⟩
   ·have e:cV (.node b o a l q)= -1:=by show(if a.tag=4 then _ else _)=_;rw[if_neg t4,if_neg t1]
    exact absurd e h
structure CdS(Fg:Fl)(x:St × St × Fl)(y:Bool × Rn)(vars:Nat->Int):Prop where
 si:SI Fg y.2
 yes:y.2.fin=0->y.1=true->InS x.1 vars
 no:y.2.fin=0->y.1=false->InS x.2.1 vars
theorem aBG{par:Nat->Option Nat}{na:Nat}(hC:CS par Fg fl C)(hG:CGr C)(hv:∀ i,i64 (vars i)):∀ (t:Tr) (s:St) (F:Fl) (r:Rn),Ws 1 t->Vd par na 12 t->tZ fl t->(bE t).Nodup->(∀ k∈bE t,Fg k=(cdA lens fl t s F).2.2 k)->OkS s->SI Fg r->(r.fin=0->InS s vars)->
 CdS Fg (cdA lens fl t s F) (cdW lens C vars t r) vars:=by
 intro t
 induction t with
 |nil=>intro s F r hw;exact absurd hw (by simp[Ws,bK])
 |node b o a l q ihl ihq=>
  intro s F r hw k1 k2 k4 h3 hs k0 h4;obtain⟨k3,x,y,h5,h6,h9⟩:=hw.parts;obtain⟨vl,vq,_,_,_⟩:=k1;obtain⟨sl,sq,_,_⟩:=k2;obtain⟨nl,nq,nlq,_⟩:=fU k4
  have live:∀ {u v:Rn},Gr u v->v.fin=0->u.fin=0:=fun g h=>by
   rename_i u v
   by_cases h0:u.fin=0
   ·exact h0
   ·rw[(g.dead h0).1]at h;exact absurd h h0
  unfold cdA at h3 ⊢;unfold cdW
  by_cases t7:a.tag=7
  ·have h8:x=0/\y=0:=by simp[sig,t7]at h5;omega
   obtain⟨rfl,rfl⟩:=h8;rw[if_pos t7]at h3 ⊢;rw[if_pos t7];dsimp only at h3 ⊢;have g1:=oX (lens:=lens) (vars:=vars) hG l r;have g2:=oX (lens:=lens) (vars:=vars) hG q (exW lens C vars l r).2;have e1:=lR hC hG hs.vs hv l 0 F r h6 vl sl nl (fun k hk=>(h3 k (fR hk)).trans (gS q _ (nlq k hk))) k0 (fun h=>(h4 h).alive);have e2:=lR hC hG hs.vs hv q 0 (exA lens fl s.isSome (cC s) l F).2 (exW lens C vars l r).2 h9 vq sq nq (fun k hk=>h3 k (gK hk)) e1.si (fun h=>(h4 (live g1 h)).alive)
   have sd1:(exW lens C vars q (exW lens C vars l r).2).2.fin=0->aCQ (hdR (exA lens fl s.isSome (cC s) l F).1,cV l) (hd (exW lens C vars l r).1) vars:=fun h=>
    ⟨e1.ok.hd,(e1.on (live g2 h)).hd,fun hn=>by
      obtain⟨h1,h2⟩:=aDG (lens:=lens) (C:=C) (vars:=vars) l r vl hn;exact⟨by rw[h2];rfl,h1⟩⟩
   have sd2:(exW lens C vars q (exW lens C vars l r).2).2.fin=0->aCQ (hdR (exA lens fl s.isSome (cC s) q (exA lens fl s.isSome (cC s) l F).2).1,cV q) (hd (exW lens C vars q (exW lens C vars l r).2).1) vars:=fun h=>
    ⟨e2.ok.hd,(e2.on h).hd,fun hn=>by
      obtain⟨h1,h2⟩:=aDG (lens:=lens) (C:=C) (vars:=vars) q (exW lens C vars l r).2 vq hn;exact⟨by rw[h2];rfl,h1⟩⟩
   exact⟨e2.si,fun h hh=>zG (h4 (live g1 (live g2 h))) (sd1 h) (sd2 h) hh,fun h hh=>zG (h4 (live g1 (live g2 h))) (sd1 h) (sd2 h) (aJG (k3.op7 t7) hh)⟩
  ·have h8:x=1/\y=1:=by simp[sig,t7]at h5;omega
   obtain⟨rfl,rfl⟩:=h8;rw[if_neg t7]at h3 ⊢;rw[if_neg t7];have ok1:=wO (lens:=lens) (fl:=fl) l s F h6 hs;have g2:=aCJ (lens:=lens) (vars:=vars) hG q (cdW lens C vars l r).2
   by_cases h7:a.op=32
   ·rw[if_pos h7]at h3 ⊢;rw[if_pos h7];dsimp only at h3 ⊢;have e1:=ihl s F r h6 vl sl nl (fun k hk=>(h3 k (fR hk)).trans (sI q _ _ (nlq k hk))) hs k0 h4;cases hl:(cdW lens C vars l r).1
    ·rw[if_neg (by decide)];exact⟨e1.si,fun _ h=>by(dsimp only at h;cases h),fun h _=>aC6 (e1.no h hl)⟩
    ·rw[if_pos rfl];have e2:=ihq (cdA lens fl l s F).1 (cdA lens fl l s F).2.2 (cdW lens C vars l r).2 h9 vq sq nq (fun k hk=>h3 k (gK hk)) ok1.1 e1.si (fun h=>e1.yes h hl);exact⟨e2.si,e2.yes,fun h hh=>aC5 (e2.no h hh)⟩
   ·rw[if_neg h7]at h3 ⊢;rw[if_neg h7];dsimp only at h3 ⊢;have e1:=ihl s F r h6 vl sl nl (fun k hk=>(h3 k (fR hk)).trans (sI q _ _ (nlq k hk))) hs k0 h4;cases hl:(cdW lens C vars l r).1
    ·rw[if_neg (by decide)];have e2:=ihq (cdA lens fl l s F).2.1 (cdA lens fl l s F).2.2 (cdW lens C vars l r).2 h9 vq sq nq (fun k hk=>h3 k (gK hk)) ok1.2 e1.si (fun h=>e1.no h hl);exact⟨e2.si,fun h hh=>aC5 (e2.yes h hh),e2.no⟩
    ·rw[if_pos rfl];exact⟨e1.si,fun h _=>aC6 (e1.yes h hl),fun _ h=>by(dsimp only at h;cases h)⟩
end Go.Proofs.YtikffmloeifkpaaGreatDoor
