/- Contracts. -/
import Derived.Test.YtikffmloeifkpaaGreatDoorP29
import Derived.Test.YtikffmloeifkpaaGreatDoorP32
namespace Go.Proofs.YtikffmloeifkpaaGreatDoor
open Go.RowKit Go.Lib Go.Deep
variable {lens:Nat->Int} {fl:List Tr}
def InL:List Rg->List Int->Prop
 |[],[]=>True
 |r::R,v::V=>inR r v/\InL R V
 |_,_=>False
theorem InL.app:∀ {R S:List Rg} {V U:List Int},InL R V->InL S U->InL (R++S) (V++U):=by
 intro R
 induction R with
 |nil=>intro S V U h k;cases V with
  |nil=>exact k
  |cons=>exact h.elim
 |cons r R ih=>intro S V U h k;cases V with
  |nil=>exact h.elim
  |cons v V=>exact⟨h.1,ih h.2 k⟩
theorem InL.hd{R:List Rg}{V:List Int}(h:InL R V):inR (hdR R) (YtikffmloeifkpaaGreatDoor.hd V):=by
 cases R with
 |nil=>cases V with
  |nil=>exact⟨Int.le_refl _,Int.le_refl _⟩
  |cons=>exact h.elim
 |cons r R=>cases V with
  |nil=>exact h.elim
  |cons v V=>exact h.1
theorem InL.args:∀ {R:List Rg} {V:List Int},InL R V->∀ i,inR (nY R i) (cI V i):=by
 intro R
 induction R with
 |nil=>intro V h i;cases V with
  |nil=>exact⟨Int.le_refl _,Int.le_refl _⟩
  |cons=>exact h.elim
 |cons r R ih=>intro V h i;cases V with
  |nil=>exact h.elim
  |cons v V=>cases i with
   |zero=>exact h.1
   |succ i=>exact ih h.2 i
def OkL(R:List Rg):Prop:=∀ r∈R,bV r
def I6(V:List Int):Prop:=∀ v∈V,i64 v
theorem bV.zero:bV (0,0):=⟨by decide,by decide,by decide⟩
theorem OkL.hd{R:List Rg}(h:OkL R):bV (hdR R):=by
 cases R with
 |nil=>exact bV.zero
 |cons r R=>exact h r (List.mem_cons_self ..)
theorem I6.hd{V:List Int}(h:I6 V):i64 (YtikffmloeifkpaaGreatDoor.hd V):=by
 cases V with
 |nil=>exact⟨by decide,by decide⟩
 |cons v V=>exact h v (List.mem_cons_self ..)
theorem OkL.one{r:Rg}(h:bV r):OkL [r]:=fun x hx=>by rw[List.mem_singleton.1 hx];exact h
theorem I6.one{v:Int}(h:i64 v):I6 [v]:=fun x hx=>by rw[List.mem_singleton.1 hx];exact h
structure SI(Fg:Fl)(r:Rn):Prop where
 arr:∀ i,i64 (r.arr i)
 sd:r.fin=2->Fg r.site=false
 no:r.fin≠2->r.site= -1
theorem SI.trap{Fg:Fl}{r:Rn}{s:Int}(h:SI Fg r)(hs:r.fin=0->Fg s=false):SI Fg (r.trap s):=by
 unfold Rn.trap
 split
 ·rename_i h0;exact⟨h.arr,fun _=>hs h0,fun k=>absurd rfl k⟩
 ·exact h
theorem SI.stop{Fg:Fl}{r:Rn}{e:Int}(h:SI Fg r)(he:e≠2):SI Fg (r.stop e):=by
 unfold Rn.stop
 split
 ·rename_i h0;exact⟨h.arr,fun k=>absurd k he,fun _=>h.no (by omega)⟩
 ·exact h
theorem SI.burn{Fg:Fl}{r:Rn}(h:SI Fg r):SI Fg r.burn:=by
 unfold Rn.burn
 split
 ·exact h.stop (by decide)
 split
 ·exact⟨h.arr,h.sd,h.no⟩
 ·exact h
theorem SI.out{Fg:Fl}{r:Rn}(h:SI Fg r)(v:Int):SI Fg (r.out v):=by
 unfold Rn.out
 split
 ·exact⟨h.arr,h.sd,h.no⟩
 ·exact h
end Go.Proofs.YtikffmloeifkpaaGreatDoor
namespace Go.Proofs.YtikffmloeifkpaaGreatDoor
open Go.RowKit Go.Lib Go.Deep
variable {lens:Nat->Int} {fl:List Tr} {C:Cl} {vars:Nat->Int} {vs:Vr} {Fg:Fl} {alive:Bool}
def tZ(fl:List Tr):Tr->Prop
 | .nil=>True
 | .node _ _ a l q=>tZ fl l/\tZ fl q/\(a.tag=3->a.site= -1->∀ vars,tkW vars (aU (fl.getD a.which.toNat .nil))=true)/\(a.tag=3->Ws 5 (aU (fl.getD a.which.toNat .nil)))
theorem fU{b o:Nat}{a:Nd}{l q:Tr}(h:(bE (.node b o a l q)).Nodup):(bE l).Nodup/\(bE q).Nodup/\(∀ k∈bE l,k ∉ bE q)/\(dM a=true->a.site ∉ bE l/\a.site ∉ bE q):=by
 unfold bE at h;rw[List.nodup_append]at h;obtain⟨_,h2,h3⟩:=h;rw[List.nodup_append]at h2;obtain⟨h4,h5,h6⟩:=h2;refine⟨h4,h5,fun k h7 h8=>h6 k h7 k h8 rfl,fun ho=>?_⟩;rw[if_pos ho]at h3;exact⟨fun h7=>h3 a.site (List.mem_singleton.2 rfl) a.site (List.mem_append_left _ h7) rfl,fun h7=>h3 a.site (List.mem_singleton.2 rfl) a.site (List.mem_append_right _ h7) rfl⟩
theorem pG{b o:Nat}{a:Nd}{l q:Tr}(h:dM a=true):a.site∈bE (.node b o a l q):=by
 unfold bE;rw[if_pos h];exact List.mem_append_left _ (List.mem_singleton.2 rfl)
theorem fR{b o:Nat}{a:Nd}{l q:Tr}{k:Int}(h:k∈bE l):k∈bE (.node b o a l q):=List.mem_append_right _ (List.mem_append_left _ h)
theorem gK{b o:Nat}{a:Nd}{l q:Tr}{k:Int}(h:k∈bE q):k∈bE (.node b o a l q):=List.mem_append_right _ (List.mem_append_right _ h)
structure ExS(Fg:Fl)(x:List Rg × Fl)(y:List Int × Rn):Prop where
 ok:OkL x.1
 num:I6 y.1
 si:SI Fg y.2
 on:y.2.fin=0->InL x.1 y.1
theorem dead{b:Bool}(h:b=true):(!b)=false:=by rw[h];rfl
end Go.Proofs.YtikffmloeifkpaaGreatDoor
namespace Go.Proofs.YtikffmloeifkpaaGreatDoor
open Go.RowKit Go.Lib Go.Deep
variable {lens:Nat->Int} {fl:List Tr} {C:Cl} {vars:Nat->Int} {Fg:Fl}
def OkS(s:St):Prop:=∀ vs,s=some vs->∀ i,bV (vs i)
def InS(s:St)(vars:Nat->Int):Prop:=∃ vs,s=some vs/\∀ i,i < 12->inR (vs i) (vars i)
theorem OkS.some{vs:Vr}(h:∀ i,bV (vs i)):OkS (some vs):=fun v e=>by cases e;exact h
theorem OkS.none:OkS none:=fun v e=>by cases e
theorem OkS.vs{s:St}(h:OkS s):∀ i,bV (cC s i):=by
 cases s with
 |none=>exact fun _=>bV.zero
 |some vs=>exact h vs rfl
theorem InS.alive{s:St}(h:InS s vars):s.isSome=true/\∀ i,i < 12->inR (cC s i) (vars i):=by
 obtain⟨vs,rfl,h2⟩:=h;exact⟨rfl,h2⟩
theorem OkS.upd{vs:Vr}(h:∀ i,bV (vs i))(k:Nat){r:Rg}(hr:bV r):OkS (Option.some (oT vs k r)):=OkS.some fun i=>by
 show bV (if i=k then r else vs i)
 split
 ·exact hr
 ·exact h i
theorem sG{s:St}(h:OkS s)(d:Sd)(lim:Rg):OkS (jY s d lim):=by
 cases s with
 |none=>exact OkS.none
 |some vs=>
  show OkS (if d.2= -1 then _ else _)
  split
  ·exact h
  split
  ·exact OkS.none
  ·rename_i he;exact OkS.upd (h vs rfl) _ ((h vs rfl _).cut (by simpa using he))
structure SdOk(d:Sd)(v:Int)(vars:Nat->Int):Prop where
 ok:bV d.1
 mem:inR d.1 v
 var:d.2≠-1->vars d.2.toNat=v/\d.2.toNat < 12
theorem sJ{s:St}(h:OkS s)(a b:Sd)(far:Int):OkS (jK s a b far):=by
 unfold jK
 split
 ·exact OkS.none
 ·exact sG (sG h _ _) _ _
theorem aD3{s:St}(h:OkS s)(a b:Sd):OkS (jA s a b):=by
 unfold jA;dsimp only
 have h1:OkS (if eH b.1=true then jY s a (dS a.1 b.1.1)else s):=by
  split
  ·exact sG h _ _
  ·exact h
 split
 ·exact sG h1 _ _
 ·exact h1
theorem nR{s:St}(h:OkS s)(op:Int)(a b:Sd):OkS (jW s op a b):=by
 unfold jW
 split
 ·exact sJ h _ _ _
 split
 ·exact sJ h _ _ _
 split
 ·exact sJ h _ _ _
 split
 ·exact sJ h _ _ _
 split
 ·exact sG (sG h _ _) _ _
 ·exact aD3 h _ _
theorem nP{s o:St}(h:OkS s)(k:OkS o):OkS (lF s o):=by
 cases o with
 |none=>exact h
 |some t=>
  cases s with
  |none=>exact k
  |some g=>exact OkS.some fun i=>(k t rfl i).meet (h g rfl i)
theorem wK{alive:Bool}{vs:Vr}(h2:∀ i,bV (vs i)):∀ (t:Tr) (s:Nat) (F:Fl),Ws s t->OkL (exA lens fl alive vs t F).1:=by
 intro t
 induction t with
 |nil=>intro s F _ r h;cases h
 |node b o a l q ihl ihq=>
  intro s F hw;obtain⟨h3,x,y,hsig,h1,h0⟩:=hw.parts;have p1:=ihl x F h1;have p2:=ihq y (exA lens fl alive vs l F).2 h0
  by_cases t0:a.tag=0
  ·rw[aBA t0];have hb:=h3.val (.inl t0);exact OkL.one (bV.one ⟨by omega,by omega⟩)
  by_cases t1:a.tag=1
  ·rw[aB9 t1];exact OkL.one (h2 _)
  by_cases t2:a.tag=2
  ·rw[zT t2];exact OkL.one bV.all
  by_cases t3:a.tag=3
  ·rw[xE t3];exact OkL.one bV.all
  by_cases t4:a.tag=4\/a.tag=20
  ·rw[zS t4];exact p1
  by_cases t5:a.tag=5
  ·rw[aB8 t5];exact OkL.one p1.hd.neg
  by_cases t6:a.tag=6
  ·by_cases o1:a.op=27
   ·rw[tR t6 o1];exact OkL.one (p1.hd.plus p2.hd)
   by_cases o2:a.op=28
   ·rw[tS t6 o2];exact OkL.one (p1.hd.minus p2.hd)
   by_cases o3:a.op=29
   ·rw[tQ t6 o3];exact OkL.one (p1.hd.times p2.hd)
   ·rw[qH t6 ⟨o1,o2,o3⟩];refine OkL.one ?_
    split
    ·exact p1.hd.over p2.hd
    ·exact bV.rest p2.hd
  by_cases t15:a.tag=15
  ·rw[wM t15];intro z hz;rcases List.mem_append.1 hz with h|h
   ·exact p1 z h
   ·exact p2 z h
  ·rw[aGN ⟨by omega,t15,by omega⟩];intro r h;cases h
theorem wO:∀ (t:Tr) (s:St) (F:Fl),Ws 1 t->OkS s->OkS (cdA lens fl t s F).1/\OkS (cdA lens fl t s F).2.1:=by
 intro t
 induction t with
 |nil=>intro s F hw _;exact absurd hw (by simp[Ws,bK])
 |node b o a l q ihl ihq=>
  intro s F hw hs;obtain⟨hok,x,y,h0,h3,h1⟩:=hw.parts;unfold cdA
  by_cases t7:a.tag=7
  ·rw[if_pos t7];exact⟨nR hs _ _ _,nR hs _ _ _⟩
  ·rw[if_neg t7];have h2:x=1/\y=1:=by simp[sig,t7]at h0;omega
   obtain⟨rfl,rfl⟩:=h2;have e1:=ihl s F h3 hs
   split
   ·have e2:=ihq _ (cdA lens fl l s F).2.2 h1 e1.1;exact⟨e2.1,nP e1.2 e2.2⟩
   ·have e2:=ihq _ (cdA lens fl l s F).2.2 h1 e1.2;exact⟨nP e1.1 e2.1,e2.2⟩
structure CdS(Fg:Fl)(x:St × St × Fl)(y:Bool × Rn)(vars:Nat->Int):Prop where
 si:SI Fg y.2
 yes:y.2.fin=0->y.1=true->InS x.1 vars
 no:y.2.fin=0->y.1=false->InS x.2.1 vars
end Go.Proofs.YtikffmloeifkpaaGreatDoor
