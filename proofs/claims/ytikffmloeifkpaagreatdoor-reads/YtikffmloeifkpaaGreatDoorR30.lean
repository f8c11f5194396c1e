/- Contracts. -/
import Derived.Test.YtikffmloeifkpaaGreatDoorR29
set_option maxHeartbeats 16000000
set_option maxRecDepth 100000
namespace Go.Proofs.YtikffmloeifkpaaGreatDoor
open Go.RowKit Go.Lib Go.Deep Go.ChangeMaps Go.MapKept Tryz
section
structure bOY(G L:List NQ):Prop where
 len:L.length=G.length
 same:∀ (i:Nat) (a:NQ),G[i]?=some a->∃ b,L[i]?=some b/\bNM a b
theorem bOY.upd{G L N:List NQ}{lo hi:Int}(h:bOY G L)(k:Upd lo hi L N):bOY G N:=
 ⟨k.len.t h.len,fun i a e=>by
   obtain⟨b,f,d⟩:=h.same i a e;obtain⟨c,g,j,_⟩:=k.same i b f;exact⟨c,g,d.t j⟩⟩
theorem bOY.ndq{G L:List NQ}(h:bOY G L){x:Int}{a:NQ}(c:Ndq G x a):∃ b,Ndq L x b/\bNM a b:=by
 obtain⟨b,e,d⟩:=h.same _ _ c.2;exact⟨b,⟨c.1,e⟩,d⟩
theorem bQQ.like{G L:List NQ}{I:List Int}{S:List (ByteArray × Int)}(h:bQQ G I S)(f:bOY G L):bQQ L I S:=
 ⟨h.len,fun i x g=>by
   obtain⟨n,c,d⟩:=h.at_ i x g;obtain⟨b,e,a⟩:=f.ndq c;exact⟨b,e,by rw[a.s,a.d];exact d⟩⟩
theorem bQ8.like{G L:List NQ}{F:List Int}{FQ:List (Nat × Nat)}(h:bQ8 G F FQ)(f:bOY G L):bQ8 L F FQ:=
 ⟨h.len,fun i x g=>by
   obtain⟨n,c,d⟩:=h.at_ i x g;obtain⟨b,e,a⟩:=f.ndq c;exact⟨b,e,by rw[a.g,a.e];exact d⟩⟩
def bT4:ByteArray:=⟨#[47]⟩
def bUL:ByteArray:=⟨#[37]⟩
def bML(S:List (ByteArray × Int))(FQ:List (Nat × Nat))(n:NQ)(s:Ns):Ns × Int:=
 if n.d=4\/n.d=13 then(s,s.var n.s)
 else if n.d=5\/n.d=14 then(s.f (if n.d=14 then 2 else 1) n.at_,bL8 n.s 1 S 0)
 else if n.d=6 then(s.call FQ (bL8 n.s 2 S 0) n.c.length n.at_,bL8 n.s 2 S 0)
 else if n.d=8/\(n.s=bT4\/n.s=bUL)then(s.f 3 n.at_,0)
 else(s,0)
def bN9(S:List (ByteArray × Int))(FQ:List (Nat × Nat))(n:NQ)(s:Ns):Ns:=if(bML S FQ n s).2 < 0 then(bML S FQ n s).1.E 4 n.at_ else(bML S FQ n s).1
theorem bL7(s:Ns)(e p:Int):(s.E e p).d=s.d/\(s.E e p).b=s.b:=by grind[Ns.E]
theorem bRP(s:Ns)(FQ:List (Nat × Nat))(r:Int)(n:Nat)(p:Int):(s.call FQ r n p).d.length<=s.d.length+1/\(s.call FQ r n p).b=s.b:=by
 grind[Ns.call,Ns.f,bL7]
theorem bNW(S:List (ByteArray × Int))(FQ:List (Nat × Nat))(n:NQ)(s:Ns):(bML S FQ n s).1.d.length<=s.d.length+1/\(bML S FQ n s).1.b=s.b:=by
 grind[bML,Ns.f,bRP]
theorem bN2{s:Ns}{e p:Int}(a:e≠0):(s.E e p).a≠0:=by
 grind[Ns.E]
theorem bSN{s:Ns}{FQ:List (Nat × Nat)}{r:Int}{n:Nat}{p:Int}(h:(s.call FQ r n p).a=0):s.a=0/\(0<=r->(FQ.getD r.toNat (0,0)).1=n):=by
 unfold Ns.call at h;dsimp only at h
 split at h
 ·omega
 ·by_cases e:(FQ.getD r.toNat (0,0)).1≠n
  ·rw[if_pos e]at h
   split at h
   ·exact absurd h (bN2 Ob)
   grind[bN2]
  ·rw[if_neg e]at h;have e:=Decidable.not_not.1 e
   split at h
   ·exact⟨h,Oa⟩
   omega
structure bPU(g:Ns->Ns):Prop where
 a:∀ s,(g s).a=0->s.a=0
 b:∀ s,s.b.length<=(g s).b.length
theorem bPU.comp{f g:Ns->Ns}(h:bPU g)(k:bPU f):bPU (fun s=>f (g s)):=⟨fun s e=>h.a s (k.a _ e),fun s=>Qm (h.b s) (k.b _)⟩
theorem bPU.same{f g:Ns->Ns}(h:bPU g)(e:∀ s,f s=g s):bPU f:=(a e:f=g) ▸ h
theorem bPU.id{f:Ns->Ns}(e:∀ s,f s=s):bPU f:=⟨Qh,Qh⟩
theorem bXX(S:List (ByteArray × Int))(FQ:List (Nat × Nat))(n:NQ):bPU (bN9 S FQ n):=by
 refine⟨fun s h=>?_,fun s=>?_⟩
 ·unfold bN9 at h
  split at h
  ·grind[bN2]
  ·unfold bML at h
   split at h
   ·exact h
   split at h
   ·exact h
   split at h
   ·exact(bSN h).1
   split at h
   ·exact h
   ·exact h
 ·have:=(bNW S FQ n s).2;unfold bN9
  split
  ·rw[(bL7 _ _ _).2,this];omega
  simp[*]
theorem bRF(x:ByteArray)(p:Int):bPU (fun s=>s.letQ x p):=by
 refine⟨fun s h=>?_,fun s=>?_⟩
 ·grind[Ns.letQ,bN2]
 ·unfold Ns.letQ
  split
  ·rw[(bL7 _ _ _).2];omega
  split
  ·rw[(bL7 _ _ _).2];omega
  ·simp
def OkR(G:List NQ)(A F:List Int)(Z:Nat)(b:NQ):Prop:=
 ((b.d=4\/b.d=12\/b.d=13)->0<=b.ref/\b.ref < Z)/\((b.d=5\/b.d=14)->0<=b.ref/\b.ref < A.length)/\(b.d=6->∃ x n,0<=b.ref/\F[b.ref.toNat]?=some x/\Ndq G x n/\n.g.length=b.c.length)
def Gd(G:List NQ)(A F:List Int)(K:Int->Prop)(s:Ns)(L:List NQ):Prop:=s.a=0->∀ i,K i->∃ b,Ndq L i b/\OkR G A F s.b.length b
section
variable {G L N:List NQ} {A F:List Int} {K J:Int->Prop} {s:Ns} {g:Ns->Ns} {lo hi:Int}
theorem OkR.mono{Z a:Nat}{b:NQ}(h:OkR G A F Z b)(c:Z<=a):OkR G A F a b:=⟨fun e=>⟨(h.1 e).1,Oi ((h.1 e).2)⟩,h.2⟩
theorem Upd.off(u:Upd lo hi L N){j:Int}{b:NQ}(h:Ndq L j b)(d:j < lo\/hi<=j):Ndq N j b:=by
 obtain⟨c,a,_,e⟩:=u.same _ _ h.2;rcases e with rfl|e
 ·exact⟨h.1,a⟩
 ·have:=h.1;omega
theorem Gd.step(h:Gd G A F K s L)(u:Upd lo hi L N)(f:∀ j,K j->j < lo\/hi<=j)(t:bPU g)(k:Gd G A F J (g s) N):Gd G A F (fun j=>K j\/J j) (g s) N:=fun c j a=>a.elim (fun a=>by
 obtain⟨b,d,e⟩:=h (t.a s c) j a;exact⟨b,u.off d Qh,e.mono (t.b s)⟩) (k c j)
theorem Gd.sub(h:Gd G A F K s L)(c:∀ j,J j->K j):Gd G A F J s L:=fun a j b=>h a j Qh
theorem bVE(x:ByteArray):∀ (l:List ByteArray) (k:Int),0<=k->bQA x l k < k+l.length
 |[],k,h=>by grind[bQA]
 |y::r,k,h=>by
  have:=bVE x r (k+1) Oa
  grind[bQA]
theorem bT0{S:List (ByteArray × Int)}{FQ:List (Nat × Nat)}(u:∀ x,bL8 x 1 S 0 < A.length)(n:bQ8 G F FQ)(m:∀ x,bL8 x 2 S 0 < F.length){b:NQ}{q s2:Ns}{r:Int}(a:bML S FQ b s=(q,r))(t:b.d≠12)(c:bN9 S FQ b s=s2){k:Nat}(o:L[k]?=some b):
 Gd G A F (fun j=>j=(k:Int)) s2 (L.set k {b with ref:=r}):=by
 rintro p j rfl;have l:=(List.getElem?_eq_some_iff.1 o).1;refine⟨{b with ref:=r},⟨Oa,by simp[l]⟩,?_⟩;have d:=(bNW S FQ b s).2;unfold bN9 at c;rw[a]at c d;dsimp only at c d
 by_cases e:r < 0
 ·grind[bN2]
 rw[if_neg e]at c;subst c;rw[d];unfold bML at a;unfold OkR;dsimp only
 split at a
 ·rename_i h4;cases a;exact⟨fun _=>⟨Oa,by have:=bVE b.s s.b 0 Oa;unfold Ns.var;omega⟩,Oa,Oa⟩
 split at a
 ·grind
 split at a
 ·rename_i h4 h5 h6;cases a;refine⟨Oa,Oa,fun _=>?_⟩;have f:=m b.s;obtain⟨i,hi⟩:=Int.eq_ofNat_of_zero_le (Int.not_lt.1 e);have h:=(bSN p).2 Oa;rw[hi]at h f ⊢;have f:i < F.length:=Oa
  obtain⟨y,v,w⟩:=n.at_ i F[i] Od
  grind
 omega
theorem cAJ{b:NQ}{k:Nat}{x:ByteArray}{p:Int}(h:Gd G A F K s L)(o:∀ j,K j->j < k)(d:L[k]?=some b)(n:b.d=12):Gd G A F (fun j=>j=(k:Int)\/K j) (s.letQ x p) (L.set k {b with ref:=(s.b.length:Int)}):=by
 intro l j a;have e:=(List.getElem?_eq_some_iff.1 d).1;have m:Upd k (k+1) L (L.set k {b with ref:=(s.b.length:Int)}):=Upd.set d ⟨rfl,rfl,rfl,rfl,rfl,rfl,rfl,rfl,rfl⟩;rcases a with rfl|a
 ·refine⟨{b with ref:=(s.b.length:Int)},⟨Oa,by simp[e]⟩,?_⟩
  grind[Ns.letQ,OkR,bN2,List.length_append,List.length_cons,List.length_nil]
 ·obtain⟨c,f,i⟩:=h ((bRF x p).a s l) j a;exact⟨c,m.off f Qh,i.mono ((bRF x p).b s)⟩
end
section
variable (H X U:Nat) (I A F:List Int) (m:Int) (Y vI D M:Value) (V:List V3) (G:List NQ)
def bMP(x:Int)(g:Ns->Ns)(lo hi:Int)(K:Int->Prop):Prop:=
 (bPU g/\∀ j,K j->lo<=j/\j < hi)/\∀ (s:Ns) (L:List NQ) (B E:Value) (w:World),bOY G L->s.b.length<=100000->(s.d.length:Int)+(hi - lo)<=1000000->NmW H X U L I A F m s Y vI D M B E V w->
   Calls prog 110 #[Qd X,Qc x] w fun e w'=>e= .returned (.tuple #[])/\(g s).b.length<=100000/\((g s).d.length:Int)<=s.d.length+(hi - lo)/\∃ N vS' vV',NmW H X U N I A F m (g s) Y vI D M vS' vV' V w'/\Nx X U Y B E vS' vV' w w'/\Upd lo hi L N/\Gd G A F K (g s) N
def bLQ:List Int->(Ns->Ns)->Int->Int->(Int->Prop)->Prop
 |[],f,lo,hi,K=>(∀ s,f s=s)/\lo<=hi/\∀ j,¬K j
 |y::ys,f,lo,hi,K=>∃ g h k J K2,bMP H X U I A F m Y vI D M V G y g lo k J/\bLQ ys h k hi K2/\(∀ s,f s=h (g s))/\lo<=k/\∀ j,K j->J j\/K2 j
end
variable {H X U:Nat} {I A F:List Int} {m:Int} {Y vI D M:Value} {V:List V3} {G:List NQ} {S:List (ByteArray × Int)} {FQ:List (Nat × Nat)} {K:Int->Prop}
theorem bLQ.le:∀ {a:List Int} {f:Ns->Ns} {lo hi:Int} {K:Int->Prop},bLQ H X U I A F m Y vI D M V G a f lo hi K->lo<=hi
 |[],_,_,_,_,h=>h.2.1
 |_::_,_,_,_,_,⟨_,_,_,_,_,_,h2,_,h4,_⟩=>by have:=bLQ.le h2;omega
theorem bLQ.tame:∀ {c:List Int} {f:Ns->Ns} {lo hi:Int} {K:Int->Prop},bLQ H X U I A F m Y vI D M V G c f lo hi K->bPU f/\∀ j,K j->lo<=j/\j < hi
 |[],_,_,_,_,h=>⟨bPU.id h.1,fun j a=>absurd a (h.2.2 j)⟩
 |_::_,_,_,_,_,⟨_,_,_,_,_,h1,h2,h3,h4,h5⟩=>by
  obtain⟨b,d⟩:=bLQ.tame h2;have:=bLQ.le h2;refine⟨(h1.1.1.comp b).same h3,fun j a=>?_⟩;rcases h5 j a with e|e
  ·have:=h1.1.2 j e;omega
  grind
theorem NmW.ref5{s2:Ns}{L:List NQ}{k gr c:Nat}{b:NQ}{r:Int}{B f d E:Value}{w W3 a:World}{o:Obj}{lo:Int}(i:Hid (Gd G A F (fun j=>j=(k:Int)) s2 (L.set k {b with ref:=r})))(h:NmW H X U L I A F m s2 (Qe gr L.length c) vI D M d E V a)(t:L[k]?=some b)(v:Nx X U (Qe gr L.length c) B E f E w W3)(x:Nx X U (Qe gr L.length c) f E d E W3 a)(p:bOY G L)(u:bPK X U (Qe gr L.length c) d E w.1.size)(q:a.1[w.1.size]?=some o)(l:lo<=k):
 (a.setCell ⟨gr,k*11+9,none⟩ (Qc r)).1[w.1.size]?=some o/\Hid (NmW H X U (L.set k {b with ref:=r}) I A F m s2 (Qe gr L.length c) vI D M d E V (a.setCell ⟨gr,k*11+9,none⟩ (Qc r))/\Nx X U (Qe gr L.length c) B E d E w (a.setCell ⟨gr,k*11+9,none⟩ (Qc r))/\Upd lo (k+1) L (L.set k {b with ref:=r})/\bOY G (L.set k {b with ref:=r})/\Gd G A F (fun j=>j=(k:Int)) s2 (L.set k {b with ref:=r})):=by
 obtain⟨n,y,u5⟩:=h.d0 t r rfl;exact⟨(Below.heap_setCell a ⟨gr,k*11+9,none⟩ (Qc r) w.1.size (fun e=>u.l (by rw[e];rfl))).t q,n,(v.t x).t y,u5.wide l Oa,p.upd u5,i.o⟩
theorem cAG(hI:bQQ G I S)(hF:bQ8 G F FQ)(j2:∀ x,bL8 x 1 S 0 < A.length)(z8:∀ x,bL8 x 2 S 0 < F.length)(hz:I.length<=100000)(hK:F.length<=100000)(hZ:G.length<=200000){k:Nat}{C:NQ}(g7:G[k]?=some C)(j8:C.d≠12)(m0:C.c.length<=100000){f:Ns->Ns}{lo:Int}(hk:bLQ H X U I A F m Y vI D M V G C.c f lo k K):
 bMP H X U I A F m Y vI D M V G k (fun s=>f (bN9 S FQ C s)) lo (k+1) (fun j=>j=(k:Int)\/K j):=by
 obtain⟨d9,m6⟩:=hk.tame;have j6:=hk.le;refine⟨⟨(bXX S FQ C).comp d9,fun j hj=>hj.elim (fun e=>Oa) (fun e=>by have:=m6 j e;omega)⟩,?_⟩;intro s L B E w hL hv hs h;obtain⟨b,hb,h5⟩:=hL.same k C g7;have HO:Hid (bN9 S FQ C s=bN9 S FQ b s/\b.c=C.c):=⟨by unfold bN9 bML;rw[h5.d,h5.s,h5.c,h5.at_],h5.c⟩;have f5:k < L.length:=(List.getElem?_eq_some_iff.1 hb).1;have j7:L.length<=200000:=by rw[hL.len];exact hZ
 have d8:=hI.like hL;have m7:=hF.like hL;have k8:Hid (b.d≠12):=by rw[Hid,h5.d];exact j8
 have Q:(b.d==12)=false:=by rw[h5.d];simp[j8]
 have o1:=h.fresh Ol;obtain⟨⟨p0,_⟩,g0,_⟩:=h.cells;obtain⟨gr,y,a1,k1,a2,k2,a3,k3,j5,d5,_,⟨e0,e1,e2,e3,e4,e5,e6,e7,e8,e9,b6⟩,_,f2⟩:=h.Q hb;subst j5;have c9:0<=(k:Int)/\(k:Int) < (L.length:Int):=Oa
 have h1:=h.alloc (ndO b a1 k1 a2 k2 a3 k3);have y1:=(Nx.refl X U (Qe gr L.length y) B E w).alloc (ndO b a1 k1 a2 k2 a3 k3);have z:(w.alloc (ndO b a1 k1 a2 k2 a3 k3)).1[w.1.size]?=some (Qf #[Qc b.d,Qc b.at_,.string b.s,Qc b.n,Qc b.mid,.slice a1 b.c.length k1,.slice a2 b.g.length k2,.slice a3 b.e.length k3,Qc b.b,Qc b.ref,Qc b.f] 73):=Qk w _;clear h h5 j8 g7;go_enter func110,ntmps110
 go_upto_region 1 with fail
 clear p0 g0 e0 e1 e2 e3 e4 e5 e6 e7 e8 e9 b6;generalize (w.alloc (ndO b a1 k1 a2 k2 a3 k3))=W1 at*;have l0:W1.cell? ⟨w.1.size,0,none⟩=some (Qc b.d):=cell_of_row _ _ _ _ _ _ z;have l1:W1.cell? ⟨w.1.size,1,none⟩=some (Qc b.at_):=cell_of_row _ _ _ _ _ _ z;have l2:W1.cell? ⟨w.1.size,2,none⟩=some (.string b.s):=cell_of_row _ _ _ _ _ _ z;have m2:b.c.length<=100000:=by rw[HO.o.2];exact m0
 have HV:Hid (V[k]?=some (.slice a1 b.c.length k1,.slice a2 b.g.length k2,.slice a3 b.e.length k3)):=d5;have k7:∀ (x Z:Int),x≠Z->(x==Z)=false:=fun x Z h=>by simp[h]
 clear d5
 have hg:((b.d=4\/b.d=13)\/((b.d≠4/\b.d≠13)/\(b.d=5\/b.d=14))\/b.d=6)\/((b.d=8/\(b.s=bT4\/b.s=bUL))\/((b.d≠4/\b.d≠13/\b.d≠5/\b.d≠14/\b.d≠6)/\¬(b.d=8/\(b.s=bT4\/b.s=bUL)))):=by
  by_cases e8:b.d=8/\(b.s=bT4\/b.s=bUL)
  ·exact .r (.l e8)
  ·by_cases e9:b.d≠4/\b.d≠13/\b.d≠5/\b.d≠14/\b.d≠6
   ·exact .r (.r ⟨e9,e8⟩)
   ·omega
 rcases hg with hg|hg
 case' inl=>
  rcases hg with d|⟨k4,d⟩|d
  case' inl=>
   obtain⟨r,q⟩:∃ r,r=s.var b.s:=⟨_,rfl⟩;obtain⟨a,W⟩:∃ a,Hid (a=s):=⟨_,rfl⟩;have t:Hid (bML S FQ b s=(a,r)):=by unfold Hid bML;rw[if_pos d,q,W.o]
   have hc:(b.d==4)=true\/((b.d==4)=false/\(b.d==13)=true):=by
    by_cases e:b.d=4
    ·exact .l (by simp[e])
    ·exact .r ⟨by simp[e],by simp[d.resolve_left e]⟩
   clear d;rcases hc with t4|⟨t4,a8⟩
   all_goals
    go_wp2_with fail
    refine(bPL b.s hv h1).mono ?_;rintro e W3 ⟨rfl,rfl⟩;rw[<-q];obtain⟨v,h9⟩:∃ x,Hid (x=B):=⟨_,rfl⟩;have O:NmW H X U L I A F m a (Qe gr L.length y) vI D M v E V W1:=by rw[W.o,h9.o];exact h1
    have y3:Nx X U (Qe gr L.length y) B E v E w W1:=by rw[h9.o];exact y1
    have o3:bPK X U (Qe gr L.length y) v E w.1.size:=by rw[h9.o];exact o1
    have o:=z;clear h1 y1 o1 z l0 l1 l2 q;generalize W1=W3 at*
  case' inr.l=>
   obtain⟨r,q⟩:∃ r,r=bL8 b.s 1 S 0:=⟨_,rfl⟩;obtain⟨kd,j1⟩:∃ kd:Int,kd=(if b.d=14 then 2 else 1):=⟨_,rfl⟩;obtain⟨a,W⟩:∃ a,Hid (a=s.f kd b.at_):=⟨_,rfl⟩;have t:Hid (bML S FQ b s=(a,r)):=by unfold Hid bML;rw[Oh,if_pos d,q,W.o,j1]
   have t4:=k7 _ _ k4.1;have a8:=k7 _ _ k4.2
   have hc:((b.d==5)=true/\(b.d==14)=false/\kd=1)\/((b.d==5)=false/\(b.d==14)=true/\kd=2):=by
    rcases d with e|e
    ·exact .l ⟨by simp[e],by simp[e],by rw[j1,Oh]⟩
    ·exact .r ⟨by simp[e],by simp[e],by rw[j1,if_pos e]⟩
   have HK:Hid (r=bL8 b.s 1 S 0):=q;clear d k4 j1;rcases hc with⟨t5,a9,rfl⟩|⟨t5,a9,rfl⟩
   all_goals
    go_wp2_with fail
    refine(bUV b.s 1 d8 hz j7 h1).mono ?_;rintro e P ⟨rfl,p⟩;rw[<-q];have h2:=h1.same p.block p.size;have y2:=y1.t ⟨p.os,p.tape,p.output,p.size,fun k hk _ _ _ _ _=>p.block k hk,fun _ h=> .l h,fun _ h=> .l h⟩;have n:=(p.block _ (Oo z)).t z;clear l0 l1 l2 h1 y1 z p q;have l0:P.cell? ⟨w.1.size,0,none⟩=some (Qc b.d):=cell_of_row _ _ _ _ _ _ n;have l1:P.cell? ⟨w.1.size,1,none⟩=some (Qc b.at_):=cell_of_row _ _ _ _ _ _ n;go_wp2_with fail
    refine(bQV _ b.at_ Oa h2).mono ?_;rintro e W3 ⟨rfl,v,O,z3⟩;rw[<-W.o]at O;have y3:=y2.t z3;obtain⟨o3,o⟩:=o1.nx z3 (Oo n);have o:=o.t n;clear l0 l1 h2 y2 z3 n o1
  case' inr.r=>
   obtain⟨r,q⟩:∃ r,r=bL8 b.s 2 S 0:=⟨_,rfl⟩;obtain⟨a,W⟩:∃ a,Hid (a=s.call FQ r b.c.length b.at_):=⟨_,rfl⟩;have t:Hid (bML S FQ b s=(a,r)):=by unfold Hid bML;rw[Oh,Oh,if_pos d,q,W.o,q]
   have g4:r < F.length:=by rw[q];exact z8 b.s
   have t4:(b.d==4)=false:=by simp[d]
   have a8:(b.d==13)=false:=by simp[d]
   have t5:(b.d==5)=false:=by simp[d]
   have a9:(b.d==14)=false:=by simp[d]
   have t6:(b.d==6)=true:=by simp[d]
   clear d;go_wp2_with fail
   refine(bUV b.s 2 d8 hz j7 h1).mono ?_;rintro e P ⟨rfl,p⟩;rw[<-q];have h2:=h1.same p.block p.size;have y2:=y1.t ⟨p.os,p.tape,p.output,p.size,fun k hk _ _ _ _ _=>p.block k hk,fun _ h=> .l h,fun _ h=> .l h⟩;have n:=(p.block _ (Oo z)).t z;clear l0 l1 l2 h1 y1 z p q;have l0:P.cell? ⟨w.1.size,0,none⟩=some (Qc b.d):=cell_of_row _ _ _ _ _ _ n;have l1:P.cell? ⟨w.1.size,1,none⟩=some (Qc b.at_):=cell_of_row _ _ _ _ _ _ n;have l2:P.cell? ⟨w.1.size,2,none⟩=some (.string b.s):=cell_of_row _ _ _ _ _ _ n;have l3:P.cell? ⟨w.1.size,3,none⟩=some (Qc b.n):=cell_of_row _ _ _ _ _ _ n;have l4:P.cell? ⟨w.1.size,4,none⟩=some (Qc b.mid):=cell_of_row _ _ _ _ _ _ n;have l5:P.cell? ⟨w.1.size,5,none⟩=some (.slice a1 b.c.length k1):=cell_of_row _ _ _ _ _ _ n;have l6:P.cell? ⟨w.1.size,6,none⟩=some (.slice a2 b.g.length k2):=cell_of_row _ _ _ _ _ _ n;have l7:P.cell? ⟨w.1.size,7,none⟩=some (.slice a3 b.e.length k3):=cell_of_row _ _ _ _ _ _ n;have l8:P.cell? ⟨w.1.size,8,none⟩=some (Qc b.b):=cell_of_row _ _ _ _ _ _ n;have l9:P.cell? ⟨w.1.size,9,none⟩=some (Qc b.ref):=cell_of_row _ _ _ _ _ _ n;have b7:P.cell? ⟨w.1.size,10,none⟩=some (Qc b.f):=cell_of_row _ _ _ _ _ _ n;go_wp2_with fail
   refine(bZ5 b a1 k1 a2 k2 a3 k3 r m7 g4 j7 Oa Oa h2).mono ?_;rintro e W3 ⟨rfl,v,O,z3⟩;rw[<-W.o]at O;have y3:=y2.t z3;obtain⟨o3,o⟩:=o1.nx z3 (Oo n);have o:=o.t n;clear l0 l1 l2 l3 l4 l5 l6 l7 l8 l9 b7 h2 y2 z3 n o1 g4
  all_goals
   have u:=bNW S FQ b s;rw[t.o]at u;have k6:Hid (bN9 S FQ b s=if r < 0 then a.E 4 b.at_ else a):=by unfold Hid bN9;rw[t.o]
   have m1:W3.cell? ⟨w.1.size,1,none⟩=some (Qc b.at_):=cell_of_row _ _ _ _ _ _ o
   by_cases z0:r < 0
   case' pos=>
    have t8:decide (r < 0)=true:=by simp[z0]
    obtain⟨c,i⟩:∃ c,c=a.E 4 b.at_:=⟨_,rfl⟩;have y0:Hid (bN9 S FQ b s=c):=by rw[Hid,k6.o,if_pos z0,i]
    have y5:c.d.length<=s.d.length+1:=by rw[i,(bL7 a 4 b.at_).1];exact u.1
    have j0:c.b.length<=100000:=by rw[i,(bL7 a 4 b.at_).2,u.2];exact hv
    have HK:Hid (Gd G A F (fun j=>j=(k:Int)) c (L.set k {b with ref:=r})):=bT0 j2 hF z8 t.o k8.o y0.o hb;clear k6 u t;go_wp2_with fail
    refine(bMJ 4 b.at_ O).mono ?_;rintro e W4 ⟨rfl,h4,y4⟩;rw[<-i]at h4;obtain⟨o4,q4⟩:=o3.nx y4 (Oo o);have q4:=q4.t o;obtain⟨b1,h8⟩:∃ a4,a4=v:=⟨_,rfl⟩;rw[<-h8]at h4 y4 o4 y3;clear O o o3 m1 t8 i z0
   case' neg=>
    have t8:decide (r < 0)=false:=by simp[z0]
    obtain⟨c,i⟩:∃ c,c=a:=⟨_,rfl⟩;have y0:Hid (bN9 S FQ b s=c):=by rw[Hid,k6.o,if_neg z0,i]
    have y5:c.d.length<=s.d.length+1:=by rw[i];exact u.1
    have j0:c.b.length<=100000:=by rw[i,u.2];exact hv
    obtain⟨W4,z7⟩:∃ x,x=W3:=⟨_,rfl⟩;obtain⟨b1,h8⟩:∃ a4,a4=v:=⟨_,rfl⟩;have h4:=O;have y4:=Nx.refl X U (Qe gr L.length y) v E W3;have o4:=o3;have q4:=o;have HK:Hid (Gd G A F (fun j=>j=(k:Int)) c (L.set k {b with ref:=r})):=bT0 j2 hF z8 t.o k8.o y0.o hb;clear k6 u O o o3 m1 z0 t;subst i z7 h8
 case' inr=>
  rcases hg with⟨k4,d⟩|⟨d,j3⟩
  case' inl=>
   obtain⟨a,W⟩:∃ a,Hid (a=s.f 3 b.at_):=⟨_,rfl⟩;have t:Hid (bML S FQ b s=(a,0)):=by unfold Hid bML;rw[Oh,Oh,Oh,if_pos ⟨k4,d⟩,W.o]
   have t4:(b.d==4)=false:=by simp[k4]
   have a8:(b.d==13)=false:=by simp[k4]
   have t5:(b.d==5)=false:=by simp[k4]
   have a9:(b.d==14)=false:=by simp[k4]
   have t6:(b.d==6)=false:=by simp[k4]
   have b4:(b.d==8)=true:=by simp[k4]
   have k9:∀ (Z:ByteArray) (l:List UInt8),Z.data.toList=l->(b.s.toList==l)=decide (b.s=Z):=fun Z l hl=>by
    rw[<-hl,<-Lib.toList_data,bOK]
   have hc:(b.s.toList==[47])=true\/((b.s.toList==[47])=false/\(b.s.toList==[37])=true):=by
    by_cases e:b.s=bT4
    ·exact .l ((k9 bT4 [47] rfl).t (decide_eq_true e))
    ·exact .r ⟨(k9 bT4 [47] rfl).t (decide_eq_false e),(k9 bUL [37] rfl).t (decide_eq_true (d.resolve_left e))⟩
   clear d k4 k9;rcases hc with u1|⟨u1,u2⟩
   all_goals
    go_wp2_with fail
    refine(bQV _ b.at_ Oa h1).mono ?_;rintro e W3 ⟨rfl,v,O,z3⟩;rw[<-W.o]at O;have y3:=y1.t z3;obtain⟨o3,o⟩:=o1.nx z3 (Oo z);have o:=o.t z;clear l0 l1 l2 h1 y1 z3 z o1;have u:=bNW S FQ b s;rw[t.o]at u
    have k6:Hid (bN9 S FQ b s=a):=by
     unfold Hid bN9;rw[t.o];exact if_neg (Int.lt_irrefl 0)
    obtain⟨c,i⟩:∃ c,c=a:=⟨_,rfl⟩;have y0:Hid (bN9 S FQ b s=c):=by rw[Hid,k6.o,i]
    have y5:c.d.length<=s.d.length+1:=by rw[i];exact u.1
    have j0:c.b.length<=100000:=by rw[i,u.2];exact hv
    obtain⟨W4,z7⟩:∃ x,x=W3:=⟨_,rfl⟩;obtain⟨b1,h8⟩:∃ a4,a4=v:=⟨_,rfl⟩;have h4:=O;have y4:=Nx.refl X U (Qe gr L.length y) v E W3;have o4:=o3;have q4:=o;have HK:Hid (Gd G A F (fun j=>j=(k:Int)) c (L.set k {b with ref:=0})):=bT0 j2 hF z8 t.o k8.o y0.o hb;clear k6 u O o o3 t;subst i z7 h8
  case' inr=>
   obtain⟨a,W⟩:∃ a,Hid (a=s):=⟨_,rfl⟩;have t:Hid (bML S FQ b s=(a,0)):=by unfold Hid bML;rw[Oh,Oh,Oh,if_neg j3,W.o]
   have t4:=k7 _ _ d.1;have a8:=k7 _ _ d.2.1;have t5:=k7 _ _ d.2.2.1;have a9:=k7 _ _ d.2.2.2.1;have t6:=k7 _ _ d.2.2.2.2
   have k9:∀ (Z:ByteArray) (l:List UInt8),Z.data.toList=l->(b.s.toList==l)=decide (b.s=Z):=fun Z l hl=>by
    rw[<-hl,<-Lib.toList_data,bOK]
   have hc:(b.d==8)=false\/((b.d==8)=true/\(b.s.toList==[47])=false/\(b.s.toList==[37])=false):=by
    by_cases e:b.d=8
    ·exact .r ⟨by simp[e],(k9 bT4 [47] rfl).t (decide_eq_false (fun h=>j3 ⟨e,.l h⟩)),(k9 bUL [37] rfl).t (decide_eq_false (fun h=>j3 ⟨e,.r h⟩))⟩
    ·exact .l (k7 _ _ e)
   obtain⟨v,h9⟩:∃ x,Hid (x=B):=⟨_,rfl⟩;have O:NmW H X U L I A F m a (Qe gr L.length y) vI D M v E V W1:=by rw[W.o,h9.o];exact h1
   have y3:Nx X U (Qe gr L.length y) B E v E w W1:=by rw[h9.o];exact y1
   have o3:bPK X U (Qe gr L.length y) v E w.1.size:=by rw[h9.o];exact o1
   have o:=z;clear d j3 k9 h1 y1 o1 z k7;generalize W1=W3 at*;rcases hc with b4|⟨b4,u1,u2⟩
   all_goals
    have u:=bNW S FQ b s;rw[t.o]at u
    have k6:Hid (bN9 S FQ b s=a):=by
     unfold Hid bN9;rw[t.o];exact if_neg (Int.lt_irrefl 0)
    obtain⟨c,i⟩:∃ c,c=a:=⟨_,rfl⟩;have y0:Hid (bN9 S FQ b s=c):=by rw[Hid,k6.o,i]
    have y5:c.d.length<=s.d.length+1:=by rw[i];exact u.1
    have j0:c.b.length<=100000:=by rw[i,u.2];exact hv
    obtain⟨W4,z7⟩:∃ x,x=W3:=⟨_,rfl⟩;obtain⟨b1,h8⟩:∃ a4,a4=v:=⟨_,rfl⟩;have h4:=O;have y4:=Nx.refl X U (Qe gr L.length y) v E W3;have o4:=o3;have q4:=o;have HK:Hid (Gd G A F (fun j=>j=(k:Int)) c (L.set k {b with ref:=0})):=bT0 j2 hF z8 t.o k8.o y0.o hb;clear k6 u O o o3 t;subst i z7 h8
 all_goals
  obtain⟨⟨p0,_⟩,g0,_⟩:=h4.cells;obtain⟨g9,c8,v9,j5,_,_,k5,z5⟩:=h4.node hb;cases j5;have e9:W4.cell? ⟨gr,k*11+9,none⟩=some (Qc b.ref):=k5 9 Oa;have f9:=z5 (k*11+9);obtain⟨q5,H5⟩:=h4.ref5 HK hb y3 y4 hL o4 q4 j6;have y8:bLQ H X U I A F m (Qe gr L.length y) vI D M V G (b.c.drop 0) f lo k K:=by rw[List.drop_zero,HO.o.2];exact hk
  clear h4 y3 y4 k5 z5 q4 HK;go_wp2_with fail
  clear p0 g0 e9 f9;go_loopg [8] (b.c.length+1) (fun b8 v8 wr=>∃ (T:Nat) (R:Ns) (Lr:List NQ) (a5 a6:Value) (a7:Int) (fr:Ns->Ns) (Kd Kr:Int->Prop),v8= Qc T/\T+b8=b.c.length+1/\NmW H X U Lr I A F m R (Qe gr L.length y) vI D M a5 a6 V wr/\Nx X U (Qe gr L.length y) B E a5 a6 w wr/\Upd lo (k+1) L Lr/\bOY G Lr/\wr.1[w.1.size]?=some (Qf #[Qc b.d,Qc b.at_,.string b.s,Qc b.n,Qc b.mid,.slice a1 b.c.length k1,.slice a2 b.g.length k2,.slice a3 b.e.length k3,Qc b.b,Qc b.ref,Qc b.f] 73)/\bPK X U (Qe gr L.length y) a5 a6 w.1.size/\bLQ H X U I A F m (Qe gr L.length y) vI D M V G (b.c.drop T) fr a7 k Kr/\lo<=a7/\fr R=f c/\(R.d.length:Int)<=s.d.length+1+(a7 - lo)/\R.b.length<=100000/\Hid (Gd G A F Kd R Lr/\(∀ j,j=(k:Int)\/K j->Kd j\/Kr j)/\∀ j,Kd j->j=(k:Int)\/j < a7))
  case atStart=>exact⟨0,c,_,_,_,lo,f,_,K,rfl,Oa,H5.o.1,H5.o.2.1,H5.o.2.2.1,H5.o.2.2.2.1,q5,o4,y8,Int.le_refl _,rfl,Oa,j0,H5.o.2.2.2.2,fun _ hj=>hj,fun _ hj=> .l hj⟩
  case round=>
   clear q5 y8 H5 o4;obtain⟨T,R,Lr,a5,a6,a7,fr,Kd,Kr,rfl,m3,q,yr,ur,d7,qr,b9,y8,f8,d0,h0,g1,z9⟩:=hrel;have c5:wr.cell? ⟨w.1.size,5,none⟩=some (.slice a1 b.c.length k1):=cell_of_row _ _ _ _ _ _ qr
   by_cases hi:T < b.c.length
   ·obtain⟨Z,hy⟩:∃ Z,b.c[T]?=some Z:=⟨b.c[T],by simp[hi]⟩;rw[bNL hy]at y8;obtain⟨g,h',kk,J,K2,hn,z4,m5,f7,z6⟩:=y8;obtain⟨bk,d4,b3,_⟩:=ur.same k b hb;obtain⟨_,_,vk,-,j9,g5,-,-⟩:=q.node d4;have d6:=HV.o;rw[d6]at j9;cases j9;have y7:=g5.k;rw[b3.c]at y7;obtain⟨g6,b2,g3,y9⟩:=bLE y7 hy;have g2:Value.slice a1 b.c.length k1= Qe g6 b.c.length b2:=g3;have f1:0<=(T:Int)/\(T:Int) < (b.c.length:Int):=Oa
    have tl:decide ((T:Int) < (b.c.length:Int))=true:=by simp;omega
    have f4:=bLQ.le z4;have h7:IntKind.i64.wrap ((T:Int)+1)=(T:Int)+1:=IntWalk.i64_in _ (Oi m2);obtain⟨n2,rfl⟩:=Oj gk;have HN:Hid (NmW H X U Lr I A F m R (Qe gr L.length y) vI D M a5 a6 V wr):=q;have HC:Hid (∀ j,Kr j->J j\/K2 j):=z6;have b5:wr.cell? ⟨w.1.size,5,none⟩=some (Qe g6 b.c.length b2):=c5.t (by rw[g2]);clear q y7 g5 d4 b3 d6 c5 g3 g2 z6;go_wp2_with fail
    refine(hn.2 R Lr a5 a6 wr d7 g1 Oa HN.o).mono ?_;rintro e w6 ⟨rfl,j4,h3,L6,c6,c7,h6,y6,u6,g8⟩;obtain⟨o6,q6⟩:=b9.nx y6 (Oo qr);have q6:=q6.t qr
    have m8:Hid (Gd G A F (fun j=>Kd j\/J j) (g R) L6/\(∀ j,j=(k:Int)\/K j->(Kd j\/J j)\/K2 j)/\∀ j,(Kd j\/J j)->j=(k:Int)\/j < kk):=by
     obtain⟨d1,d2,d3⟩:=z9.o;refine⟨d1.step u6 (fun j hj=>by have:=d3 j hj;omega) hn.1.1 g8,fun j hj=>?_,fun j hj=>?_⟩
     ·rcases d2 j hj with e|e
      ·exact .l (.l e)
      ·exact(HC.o j e).elim (fun e=> .l (.r e)) .r
     ·rcases hj with e|e
      ·have:=d3 j e;omega
      ·have:=hn.1.2 j e;omega
    clear b5 y9 tl g8 z9 HC;go_wp2;go_roundg n2
    case rel=>exact⟨T+1,g R,L6,c6,c7,kk,h',_,K2,Od,Oa,h6,yr.t y6,ur.t (u6.wide Oa Oa),d7.upd u6,q6,o6,z4,Oa,by rw[<-m5,d0],Oa,j4,m8⟩
    case measure=>omega
   ·have tl:decide ((T:Int) < (b.c.length:Int))=false:=by simp;omega
    rw[List.drop_eq_nil_of_le Oa]at y8;obtain⟨z2,f6,z1⟩:=y8;have HE:Hid (f (bN9 S FQ C s)=R):=by rw[Hid,HO.o.1,y0.o,<-d0,z2]
    have m4:Hid (Gd G A F (fun j=>j=(k:Int)\/K j) R Lr):=z9.o.1.sub (fun j hj=>(z9.o.2.1 j hj).elim id (fun e=>absurd e (z1 j)));clear z2 m3 z1 z9;go_wp2;go_end0
    rw[HE.o];exact⟨rfl,g1,Oa,Lr,a5,a6,q,yr,ur,m4.o⟩
end
section
variable {H X U:Nat} {L:List NQ} {I A F:List Int} {m:Int} {s:Ns} {Y vI D M B E:Value} {V:List V3} {w w1 w2:World} {G:List NQ} {K:Int->Prop}
theorem infoStr:(prog.info? 9).map (fun i=>(i.zero,i.size,i.bytes))=some (some (.string (ByteArray.mk #[])),1,16):=by kernel_rfl
theorem NmW.b0(h:NmW H X U L I A F m s Y vI D M B E V w){x:ByteArray}{g J:Nat}(n:w1.os=w.os/\w1.tape=w.tape/\w1.output=w.output/\w.1.size<=w1.1.size)(P:∀ l,l < w.1.size->w1.1[l]?=w.1[l]?)(T:w2.ownsRow H 9 1 (Qe g (s.b.length+1) J) (s.b.length+1) (bQI s.b++[.string x]))(f:w1.grownBy w2 E.ownBlock)(C:E.ownBlock=some g\/g=w1.1.size):
 NmW H X U L I A F m {s with b:=s.b++[x]} Y vI D M B (Qe g (s.b.length+1) J) V (w2.setCell ⟨X,1,none⟩ (Qe g (s.b.length+1) J))/\Nx X U Y B E B (Qe g (s.b.length+1) J) w (w2.setCell ⟨X,1,none⟩ (Qe g (s.b.length+1) J)):=by
 have z:X < w.1.size:=(Oo h.nm);have hsz:=h.size;have R:=f.size;have old:∀ j,j < w.1.size->E.ownBlock≠some j->w2.1[j]?=w.1[j]?:=fun j d u=>(f.block j Oa Qg).t Qh
 have Q:g≠X:=by
  rcases C with e|e
  ·exact fun O=>bL5 h.b h.nm Ob Qh
  ·omega
 have off:∀ {j:Nat} {c:Array Value} {r:TypeId},w.1[j]?=some (.cells c r (0,0))->r≠9->j≠X->(w2.setCell ⟨X,1,none⟩ (Qe g (s.b.length+1) J)).1[j]?=w.1[j]?:=fun d u k=>(Om k).t (old _ Qg (bL5 h.b d Qg))
 have i:∀ {p q:Nat} {e:TypeId} {v:Value} {t:List Value},w.ownsRow H e q v p t->e≠9->e≠129->(w2.setCell ⟨X,1,none⟩ (Qe g (s.b.length+1) J)).ownsRow H e q v p t:=fun o y k=>cD o (fun j d=>by
  obtain⟨⟨c,a⟩,_⟩:=bEH o d;exact off a y (bEF a h.nm k))
 refine⟨⟨aM _ ((old X z (bL5 h.b h.nm Ob)).t h.nm),(off h.prog Ob (bEF h.prog h.nm Ob)).t h.prog,i h.nodes Ob Ob,i h.its Ob Ob,i h.arrs Ob Ob,i h.fns Ob Ob,i h.d Ob Ob,?_,h.c.move (fun j d=>?_),by grind[World.setCell]⟩,⟨f.os.t n.1,f.tape.t n.2.1,f.output.t Qh,by grind[World.setCell],(by grind[Below.heap_setCell]),Qg,fun j d=>?_⟩⟩
 ·grind[bQI,Value.ownBlock,List.length_append,cD,Below.heap_setCell]
 ·obtain⟨⟨c,a⟩,_⟩:=h.c.typ d;rcases a with a|a
  ·exact off a Ob (bEF a h.nm Ob)
  ·exact off a Ob (bEF a h.nm Ob)
 grind[Value.ownBlock]
theorem cB2(hZ:G.length<=200000){k:Nat}{C:NQ}(z8:G[k]?=some C)(y6:C.d=12){y:Int}(j0:C.c=[y]){g:Ns->Ns}{lo:Int}(b5:lo<=k)(hy:bMP H X U I A F m Y vI D M V G y g lo k K):
 bMP H X U I A F m Y vI D M V G k (fun a2=>(g a2).letQ C.s C.at_) lo (k+1) (fun j=>j=(k:Int)\/K j):=by
 refine⟨⟨hy.1.1.comp (bRF C.s C.at_),fun j hj=>hj.elim (fun e=>Oa) (fun e=>by have:=hy.1.2 j e;omega)⟩,?_⟩;intro a2 L B E w hL hv hs h;obtain⟨b,hb,W⟩:=hL.same k C z8;have s:b.c=[y]:=W.c.t j0;have HO:Hid (b.s=C.s/\b.at_=C.at_/\b.d=12):=⟨W.s,W.at_,W.d.t y6⟩;have b4:k < L.length:=(List.getElem?_eq_some_iff.1 hb).1;have b1:L.length<=200000:=by rw[hL.len];exact hZ
 have Q:(b.d==12)=true:=by rw[W.d];simp[y6]
 have o1:=h.fresh Ol;obtain⟨⟨u,_⟩,g0,_⟩:=h.cells;obtain⟨gr,q,l,o,P,Z,R,k3,k9,j9,z7,⟨e0,e1,e2,e3,e4,e5,e6,e7,e8,e9,a8⟩,_,b3⟩:=h.Q hb;subst k9;have b2:0<=(k:Int)/\(k:Int) < (L.length:Int):=Oa
 have k6:=z7.k;have y8:b.c[0]?=some y:=by rw[s];rfl
 obtain⟨T,a4,z1,h6⟩:=bLE k6 y8;have z9:b.c.length=1:=by rw[s];rfl
 have h1:=h.alloc (ndO b l o P Z R k3);have y1:=(Nx.refl X U (Qe gr L.length q) B E w).alloc (ndO b l o P Z R k3);have j7:T < w.1.size:=Qp w _ h6;have i0:(w.alloc (ndO b l o P Z R k3)).cell? ⟨T,0,none⟩=some (Qc y):=(Qo (Below.heap_alloc w _ T j7)).t h6;have q1:(w.alloc (ndO b l o P Z R k3)).1[w.1.size]?=some (Qf #[Qc b.d,Qc b.at_,.string b.s,Qc b.n,Qc b.mid,.slice l b.c.length o,.slice P b.g.length Z,.slice R b.e.length k3,Qc b.b,Qc b.ref,Qc b.f] 73):=Qk w _;have z0:Value.slice l b.c.length o= Qe T 1 a4:=by have:=z1;rw[z9]at this ⊢;exact this
 clear h W y6 z8 k6 z7 h6 z1 y8 j9 s j0;go_enter func110,ntmps110
 have g1:Hid (Value.slice l b.c.length o= Qe T 1 a4):=z0;clear z0 z9;go_upto_region 1 with fail
 clear u g0 e0 e1 e2 e3 e4 e5 e6 e7 e8 e9 a8;generalize (w.alloc (ndO b l o P Z R k3))=W1 at*;have l0:W1.cell? ⟨w.1.size,0,none⟩=some (Qc b.d):=cell_of_row _ _ _ _ _ _ q1;have l5:W1.cell? ⟨w.1.size,5,none⟩=some (Qe T 1 a4):=by rw[<-g1.o];exact cell_of_row _ _ _ _ _ _ q1
 go_wp2_with fail
 refine(hy.2 a2 L B E W1 hL hv Oa h1).mono ?_;rintro e i ⟨rfl,k4,b7,O,a3,b8,f,z2,u2,j1⟩;have y2:=y1.t z2;obtain⟨o2,v⟩:=o1.nx z2 (Oo q1);have v:=v.t q1;obtain⟨bk,s,a5,_⟩:=u2.same k b hb;have h9:O.length=L.length:=u2.len;clear l0 l5 i0 h1 y1 z2 q1 o1;have l1:i.cell? ⟨w.1.size,1,none⟩=some (Qc b.at_):=cell_of_row _ _ _ _ _ _ v;have l2:i.cell? ⟨w.1.size,2,none⟩=some (.string b.s):=cell_of_row _ _ _ _ _ _ v;generalize z3:g a2=a at*;have HG:Hid (g a2=a):=z3;clear z3;go_wp2_with fail
 refine(bPL b.s k4 f).mono ?_;rintro e W3 ⟨rfl,rfl⟩;obtain⟨p,cv,rfl,_⟩:=eQ f.b;obtain⟨⟨u,c1,_⟩,g0,_⟩:=f.cells;obtain⟨g9,a9,v9,k9,-,-,h8,k8⟩:=f.node s;simp only[Value.slice.injEq,Option.some.injEq,Addr.mk.injEq]at k9;obtain⟨⟨rfl,-⟩,-,rfl⟩:=k9;have e9:i.cell? ⟨gr,k*11+9,none⟩=some (Qc bk.ref):=h8 9 Oa;have f9:=k8 (k*11+9);have y9:=k4;have k5:Qe gr L.length q=Qe gr O.length q:=by rw[h9]
 obtain⟨j2,a7,u3⟩:=f.d0 s (a.b.length:Int) k5;have y7:Hid (Gd G A F (fun j=>j=(k:Int)\/K j) (a.letQ C.s C.at_) (O.set k {bk with ref:=(a.b.length:Int)})):=cAJ j1 (fun j hj=>(hy.1.2 j hj).2) s (a5.d.t HO.o.2.2);have y3:=y2.t (a7.drewN 1);have z6:w.1.size≠gr:=fun e=>o2.l (by rw[e];rfl);have x:(i.setCell ⟨gr,k*11+9,none⟩ (Qc a.b.length)).drew.1[w.1.size]?=_:=(Below.heap_setCell i ⟨gr,k*11+9,none⟩ (Qc a.b.length) w.1.size z6).t v;have a6:=(u2.wide (lo':=lo) (hi':=(k:Int)+1) (Int.le_refl _) Oa).t (u3.wide Oa Oa);obtain⟨a1,y5⟩:∃ a1,a1=a.var b.s:=⟨_,rfl⟩;rw[<-y5]
 have z:Hid (a.letQ C.s C.at_=if 0<=a1 then a.E 4 b.at_ else if 12<=a.b.length then a.E 5 b.at_ else {a with b:=a.b++[b.s]}):=by
  unfold Hid Ns.letQ;rw[<-HO.o.1,<-HO.o.2.1,y5]
 have H3:Hid (NmW H X U (O.set k {bk with ref:=(a.b.length:Int)}) I A F m a (Qe gr L.length q) vI D M a3 (.slice p a.b.length cv) V (i.setCell ⟨gr,k*11+9,none⟩ (Qc a.b.length)).drew/\Nx X U (Qe gr L.length q) B E a3 (.slice p a.b.length cv) w (i.setCell ⟨gr,k*11+9,none⟩ (Qc a.b.length)).drew/\Upd lo (k+1) L (O.set k {bk with ref:=(a.b.length:Int)})):=⟨j2.drewN 1,y3,a6⟩;have o3:=o2;clear h8 k8 f j1 y2 v o2 u2 a5 j2 a7 y3 u3 a6 l1 l2 y5 k5 z6 h9;go_upto_region 4 with fail
 go_region
 clear u c1 g0 e9 f9;generalize (i.setCell ⟨gr,k*11+9,none⟩ (Qc a.b.length)).drew=d at*;generalize (O.set k {bk with ref:=(a.b.length:Int)})=L4 at*;obtain⟨c,y4,u4⟩:=H3.o;have l1:d.cell? ⟨w.1.size,1,none⟩=some (Qc b.at_):=cell_of_row _ _ _ _ _ _ x;have l2:d.cell? ⟨w.1.size,2,none⟩=some (.string b.s):=cell_of_row _ _ _ _ _ _ x
 by_cases r:0<=a1
 ·have t0:decide (0<=a1)=true:=by simp[r]
  have n:Hid (a.letQ C.s C.at_=a.E 4 b.at_):=by rw[Hid,z.o,if_pos r]
  clear z r x;go_wp2_with fail
  refine(bMJ 4 b.at_ c).mono ?_;rintro e W5 ⟨rfl,h5,z5⟩;clear l1 l2 H3 c;go_wp2;refine bodyPost_ret (results_none rfl _ _ _) rfl ?_;rw[HG.o,n.o];exact⟨rfl,by rw[(bL7 a 4 b.at_).2];exact y9,by rw[(bL7 a 4 b.at_).1];omega,L4,_,_,h5,y4.t z5,u4,by have:=y7.o;rw[n.o]at this;exact this⟩
 ·have t0:decide (0<=a1)=false:=by simp;omega
  by_cases f:12<=a.b.length
  ·have t1:decide ((12:Int)<=(a.b.length:Int))=true:=by simp;omega
   have n:Hid (a.letQ C.s C.at_=a.E 5 b.at_):=by rw[Hid,z.o,if_neg r,if_pos f]
   obtain⟨⟨u,c1,_⟩,_⟩:=c.cells;have HH:Hid (NmW H X U L4 I A F m a (Qe gr L.length q) vI D M a3 (.slice p a.b.length cv) V d):=c;clear z r x f c;go_wp2_with fail
   refine(bMJ 5 b.at_ HH.o).mono ?_;rintro e W5 ⟨rfl,h5,z5⟩;clear l1 l2 H3 HH u c1;go_wp2;refine bodyPost_ret (results_none rfl _ _ _) rfl ?_;rw[HG.o,n.o];exact⟨rfl,by rw[(bL7 a 5 b.at_).2];exact y9,by rw[(bL7 a 5 b.at_).1];omega,L4,_,_,h5,y4.t z5,u4,by have:=y7.o;rw[n.o]at this;exact this⟩
  ·have t1:decide ((12:Int)<=(a.b.length:Int))=false:=decide_eq_false Oa;have n:Hid (a.letQ C.s C.at_={a with b:=a.b++[b.s]}):=by rw[Hid,z.o,if_neg r,if_neg f]
   obtain⟨⟨u,c1,_,_,cf⟩,_⟩:=c.cells;have f1:=cf 1;obtain⟨i0,j6,j5,j4,j3⟩:=info_parts infoStr;have y0:X < d.1.size:=Qp _ _ u;have z4:w.1.size < d.1.size:=(Oo x);have hH:=c.size;have ho:=c.b;have ag:some X≠(Value.slice p a.b.length cv).ownBlock:=fun e=>bL5 c.b c.nm Ob e.symm;have HH:Hid (NmW H X U L4 I A F m a (Qe gr L.length q) vI D M a3 (.slice p a.b.length cv) V d):=c;clear z r x c cf;have aq:some w.1.size≠(Value.slice p a.b.length cv).ownBlock:=fun e=>o3.v e.symm;go_upto_region 5 with fail
   go_region_law
    ((refine step_append_lies _ (by rfl) _ _ _ (by rfl) H 9 i0 _ 1 16 underlying58 j6 j5 j4 j3 rfl Oa (.slice p a.b.length cv) a.b.length (bQI a.b) (by rfl) ((ho.alloc _).drew)
       ⟨d.1.size,0,none⟩ 1 1 [.string b.s] (by rfl) (by rfl) (World.news_of_block (cs:=#[.string b.s]) (t:=9) (fr:=(0,0)) (Qk d _)) (by simp[Value.oneCell'])
       Oa (by unfold maxLen;omega) Oa (by simp;omega) (d.1.size+1) Od ?_;intro gg J w1 k7 h7 j8 b6;have q1:=(h7.cell_far ⟨X,1,none⟩ (kO y0) ag).t (sS y0 c1);have v:=(h7.frozen_far ⟨X,1,none⟩ (kO y0) ag).t (xB y0 f1);have x:=(h7.cell_far ⟨w.1.size,2,none⟩ (kO z4) aq).t (sS z4 l2)))
   all_goals obtain⟨h5,z5⟩:=HH.o.b0 (w1:=(d.alloc (Qf #[.string b.s] 9)).drew) ⟨rfl,rfl,rfl,by simp[World.drew]⟩ (fun _ hk=>On hk) k7 h7 (j8.imp id (fun e=>e.t (by simp[World.drew])))
   all_goals go_wp2
   all_goals refine bodyPost_ret (results_none rfl _ _ _) rfl ?_
   all_goals rw[HG.o,n.o]
   all_goals exact⟨rfl,by simp;omega,by show(a.d.length:Int)<=_;omega,L4,_,_,h5,y4.t z5,u4,by have:=y7.o;rw[n.o]at this;exact this⟩
end
section
variable {H X U:Nat} {I A F:List Int} {m:Int} {Y vI D M:Value} {V:List V3} {C:List NQ} {S:List (ByteArray × Int)} {FQ:List (Nat × Nat)}
theorem bMP.wide{x:Int}{f:Ns->Ns}{lo hi lo' hi':Int}{K G:Int->Prop}(h:bMP H X U I A F m Y vI D M V C x f lo hi K)(r:lo'<=lo)(s:hi<=hi')(a:∀ j,G j->K j):bMP H X U I A F m Y vI D M V C x f lo' hi' G:=
 ⟨⟨h.1.1,fun j t=>Oi (h.1.2 j (a j t))⟩,fun u L B E y c d z i=>(h.2 u L B E y c d Oa i).mono fun e P ⟨k,l,O,b,v,w,n,o,p,q⟩=>⟨k,l,Oa,b,v,w,n,o,p.wide r s,q.sub a⟩⟩
theorem bLQ.one{x:Int}{f:Ns->Ns}{lo hi:Int}{K:Int->Prop}(h:bMP H X U I A F m Y vI D M V C x f lo hi K)(a:lo<=hi):bLQ H X U I A F m Y vI D M V C [x] f lo hi K:=
 ⟨f,id,hi,K,fun _=>False,h,⟨fun _=>rfl,Int.le_refl _,fun _ h=>h⟩,fun _=>rfl,a,fun _=> .l⟩
theorem bLQ.o{x:Int}{f:Ns->Ns}{lo hi:Int}{K:Int->Prop}(h:bLQ H X U I A F m Y vI D M V C [x] f lo hi K):bMP H X U I A F m Y vI D M V C x f lo hi K:=by
 obtain⟨g,p,q,n,o,a,⟨b,c,k⟩,d,_,i⟩:=h;have e:f=g:=funext fun s=>by rw[d,b]
 subst e;exact a.wide (Int.le_refl _) c (fun j l=>(i j l).resolve_right (k j))
theorem bLQ.wide:∀ {b:List Int} {f:Ns->Ns} {lo hi a:Int} {K:Int->Prop},bLQ H X U I A F m Y vI D M V C b f lo hi K->hi<=a->bLQ H X U I A F m Y vI D M V C b f lo a K
 |[],_,_,_,_,_,h,h2=>⟨h.1,Int.le_trans h.2.1 h2,h.2.2⟩
 |_::_,_,_,_,_,_,⟨g,f2,k,K1,K2,a1,a2,a3,a4,a5⟩,h2=>⟨g,f2,k,K1,K2,a1,a2.wide h2,a3,a4,a5⟩
theorem bLQ.app:∀ {d c:List Int} {f g:Ns->Ns} {lo b hi:Int} {K G:Int->Prop},bLQ H X U I A F m Y vI D M V C d f lo b K->bLQ H X U I A F m Y vI D M V C c g b hi G->bLQ H X U I A F m Y vI D M V C (d++c) (fun s=>g (f s)) lo hi (fun j=>K j\/G j)
 |[],[],f,g,_,_,_,_,_,h,k=>⟨fun s=>by dsimp only;rw[h.1,k.1],Int.le_trans h.2.1 k.2.1,fun j a=>a.elim (h.2.2 j) (k.2.2 j)⟩
 |[],y::c,f,g,lo,b,hi,_,_,h,⟨g1,f2,kk,K1,K2,a1,a2,a3,a4,a5⟩=>⟨g1,f2,kk,K1,K2,a1.wide h.2.1 (Int.le_refl _) (fun _ h=>h),a2,fun s=>by dsimp only;rw[h.1,a3],Int.le_trans h.2.1 a4,fun j a=>a.elim (fun e=>absurd e (h.2.2 j)) (a5 j)⟩
 |_::_,_,f,g,_,_,_,_,G,⟨g1,f2,kk,K1,K2,a1,a2,a3,a4,a5⟩,k=>⟨g1,fun s=>g (f2 s),kk,K1,_,a1,a2.app k,fun s=>by dsimp only;rw[a3],a4,fun j a=>a.elim (fun e=>(a5 j e).imp id .l) (fun e=> .r (.r e))⟩
theorem NX.len{L:List NQ}:∀ {t:Tr} {c:List Int} {lo hi:Int},NX L t c lo hi->(c.length:Int)<=hi - lo:=by
 intro t
 induction t with
 |nil=>
  intro c lo hi h;obtain⟨rfl,h⟩:=h;simp;omega
 |node b o a l r ihl ihr=>
  intro c lo hi h;unfold NX at h
  by_cases m:a.a=15
  ·rw[if_pos m]at h;obtain⟨x,O,u,rfl,d,n⟩:=h;have:=ihl d;have:=ihr n;simp only[List.length_cons,List.length_nil]at*;omega
  rw[if_neg m]at h
  by_cases j:a.a=20
  ·rw[if_pos j]at h;exact ihl h
  rw[if_neg j]at h
  by_cases f:a.a=4
  ·rw[if_pos f]at h;exact ihl h
  rw[if_neg f]at h
  by_cases k:a.a=18
  ·rw[if_pos k]at h;obtain⟨x,v,_,_,p,i⟩:=h;have:=p.le;rcases i with⟨rfl,_,i⟩|⟨e,u,rfl,_,_,q,z⟩
   ·simp;omega
   ·have:=q.le;simp;omega
  ·rw[if_neg k]at h;obtain⟨x,v,rfl,_,y,d,_⟩:=h;simp;omega
theorem NX.lenL{L:List NQ}:∀ {t:Tr} {d:List Int} {lo hi:Int},Ws 13 t->NX L t d lo hi->d.length=YtikffmloeifkpaaGreatDoor.aO t:=by
 intro t
 induction t with
 |nil=>
  intro d lo hi _ h;rw[h.1];rfl
 |node b o a l r _ ihr=>
  intro d lo hi c h;unfold Ws at c;obtain⟨_,_,c⟩:=c;unfold NX at h
  by_cases e:a.a=15
  ·rw[if_pos e]at h;obtain⟨x,i,m,rfl,_,f⟩:=h;rw[e]at c;have:=ihr c.2 f;simp[YtikffmloeifkpaaGreatDoor.aO,this]
  ·exfalso;simp[sig,e]at c
theorem NX.lenV{L:List NQ}{t:Tr}{e:List Int}{lo hi:Int}(c:Ws 3 t)(h:NX L t e lo hi):e.length=YtikffmloeifkpaaGreatDoor.aD t:=by
 cases t with
 |nil=>rw[h.1];rfl
 |node b o a l r=>
  unfold Ws at c;obtain⟨_,_,c⟩:=c
  by_cases d:a.a=20
  ·unfold NX at h;rw[Oh,if_pos d]at h;rw[d]at c;exact h.lenL c.1
  ·exfalso;simp[sig,d]at c
theorem bDR{o:Int}(h:27<=o/\o<=31):(sp o.toNat=bT4\/sp o.toNat=bUL)↔(o=30\/o=31):=by
 obtain⟨a,b⟩:=h;rcases(by omega:o=27\/o=28\/o=29\/o=30\/o=31)with e|e|e|e|e<;>subst e<;>decide
theorem bNV{n:NQ}{a:Nd}{c:Nat}(s:Ns)(k:OkA a)(h:(a.a=0/\n.d=3)\/(a.a=1/\n.d=4/\n.at_=a.b/\n.s=a.h)\/(a.a=2/\n.d=5/\n.at_=a.b/\n.s=a.h)\/(a.a=3/\n.d=6/\n.at_=a.b/\n.s=a.h/\n.c.length=c)\/(a.a=5/\n.d=7)
   \/(a.a=6/\n.d=8/\n.at_=a.e/\n.s=sp a.op.toNat)\/(a.a=7/\n.d=9)\/(a.a=8/\(n.d=10\/n.d=11))\/(a.a=9/\a.flag=false/\n.d=13/\n.at_=a.b/\n.s=a.h)\/(a.a=10/\n.d=14/\n.at_=a.b/\n.s=a.h)
   \/(11<=a.a/\15<=n.d)):
 bN9 S FQ n s=nm1 S FQ a c s:=by
 unfold bN9 bML nm1;rcases h with⟨d,b⟩|⟨d,b,e,f⟩|⟨d,b,e,f⟩|⟨d,b,e,f,j⟩|⟨d,b⟩|⟨d,b,e,f⟩|⟨d,b⟩|⟨d,b⟩|⟨d,i,b,e,f⟩|⟨d,b,e,f⟩|⟨d,b⟩
 ·simp[d,b]
 ·simp[d,b,e,f]
 ·simp[d,b,e,f]
 ·simp[d,b,e,f,j]
 ·simp[d,b]
 ·have:=bDR (k.op6 d);rw[f,e,b];simp only[this]
  by_cases q:a.op=30\/a.op=31
  ·simp[d,q]
  ·simp[d,q]
 ·simp[d,b]
 ·rcases b with b|b<;>simp[d,b]
 ·simp[d,i,b,e,f]
 ·simp[d,b,e,f]
 ·have l:n.d≠4:=Oa
  have o:n.d≠13:=Oa
  have p:n.d≠5:=Oa
  have r:n.d≠14:=Oa
  have t:n.d≠6:=Oa
  have u:n.d≠8:=Oa
  have v:a.a≠1:=Oa
  have x:a.a≠9:=Oa
  have y:a.a≠2:=Oa
  have z:a.a≠10:=Oa
  have O:a.a≠3:=Oa
  have P:a.a≠6:=Oa
  simp[l,o,p,r,t,u,v,x,y,z,O,P]
theorem bZH(o:bQQ C I S)(l:bQ8 C F FQ)(i:∀ x,bL8 x 1 S 0 < A.length)(d:∀ x,bL8 x 2 S 0 < F.length)(q:I.length<=100000)(p:F.length<=100000)(t:C.length<=100000){x lo hi:Int}{n:NQ}{K:Int->Prop}(a:Ndq C x n)(r:0<=lo)(y:x < hi)(k:n.d≠12)(u:(n.c.length:Int)<=x - lo){f:Ns->Ns}(b:bLQ H X U I A F m Y vI D M V C n.c f lo x K):
 bLQ H X U I A F m Y vI D M V C [x] (fun s=>f (bN9 S FQ n s)) lo hi (fun j=>j=x\/K j):=by
 have v:=a.lt;have c:=a.1;have e:((x.toNat:Nat):Int)=x:=Int.toNat_of_nonneg c;have h:=cAG (X:=X) (U:=U) (m:=m) (Y:=Y) (vI:=vI) (D:=D) (M:=M) (V:=V) (A:=A) (H:=H) o l i d q p Oa a.2 k Oa (lo:=lo) (f:=f) (K:=K) (by rw[e];exact b);rw[e]at h;exact bLQ.one (h.wide (Int.le_refl _) Oa (fun _ h=>h)) (Oi b.le)
def okB(s:Nat):Bool:=s !=6&&s !=7&&s !=8&&s !=16&&s !=18&&s !=22&&s !=23
def cAY(s n:Nat):Bool:=match sig s n with
 |none=>true
 |some (x,y)=>!okB s||(okB x&&okB y&&(decide (n<=15)||n==18||n==20)&&(!(decide (n<=5)||n==9||n==13||n==14||n==20)||y==99)&&(!decide (n<=1)||x==99)&&(n !=3||x==3))
theorem bYT:(List.range 24).all (fun s=>(List.range 21).all (fun n=>cAY s n))=true:=by decide+kernel
theorem bXD{s n:Nat}{p:Nat × Nat}(h:sig s n=some p):s < 24/\n < 21:=by
 constructor
 ·refine Nat.lt_of_not_le fun a=>?_;unfold sig at h;rw[Oh,Oh,Oh,Oh,Oh,Oh,Oh,Oh,Oh,Oh,Oh,Oh,Oh,Oh,Oh]at h;cases h
 ·refine Nat.lt_of_not_le fun a=>?_;unfold sig at h;have e:∀ k,k < 21->n≠k:=fun k b e=>Oa
  have l:∀ k,k < 21->¬n<=k:=fun k b e=>Oa
  simp[e,l]at h
theorem cAC{s n x y:Nat}(h:sig s n=some (x,y))(i:okB s=true):okB x=true/\okB y=true/\(n<=15\/n=18\/n=20)/\((n<=5\/n=9\/n=13\/n=14\/n=20)->y=99)/\(n<=1->x=99)/\(n=3->x=3):=by
 obtain⟨d,f⟩:=bXD h;have a:=List.all_eq_true.1 (List.all_eq_true.1 bYT s (List.mem_range.2 d)) n (List.mem_range.2 f);unfold cAY at a;rw[h]at a;simp only[i,Bool.not_true,Bool.false_or,Bool.and_eq_true,Bool.or_eq_true,decide_eq_true_eq,beq_iff_eq,Bool.not_eq_true',Bool.or_eq_false_iff,decide_eq_false_iff_not,bne_iff_ne,beq_eq_false_iff_ne]at a;obtain⟨⟨⟨⟨⟨b,c⟩,j⟩,k⟩,l⟩,o⟩:=a;exact⟨b,c,Oa,fun e=>Oa,fun e=>Oa,fun e=>Oa⟩
def cK(k:Int):Nat:=if k < 3 then 4 else if k<=8 then 0 else if k<=11 then 1 else if k<=18 then 2 else if k=19 then 3 else 4
def cS(s:Nat):Nat:=if s=0\/s=3\/s=13\/s=21 then 0 else if s=1\/s=5\/s=15\/s=20 then 1 else if s=2\/s=4\/s=14 then 2 else if s=9 then 3 else 4
def cT(n:Nat):Nat:=if n<=6 then 0 else if n<=8 then 1 else 2
def bOO(s n x y:Nat):Bool:=
 if n=15 then cS x==cS s&&cS y==cS s
 else if n=4\/n=20 then cS x==cS s
 else if n=18 then cS s==3&&cS x==2&&cS y==2
 else cT n==cS s&&(if n<=1 then true else if n=8 then cS x==1&&cS y==1 else if n=11 then cS x==1&&cS y==3 else if n=12 then cS x==1&&cS y==2 else cS x==0&&(!(n==6||n==7||n==10)||cS y==0))
theorem bXE:(List.range 24).all (fun s=>(List.range 21).all (fun n=>match sig s n with|none=>true|some (x,y)=>!okB s||bOO s n x y))=true:=by decide+kernel
theorem cAD{s n x y:Nat}(h:sig s n=some (x,y))(d:okB s=true):bOO s n x y=true:=by
 obtain⟨b,c⟩:=bXD h;have a:=List.all_eq_true.1 (List.all_eq_true.1 bXE s (List.mem_range.2 b)) n (List.mem_range.2 c);rw[h]at a;simpa[d]using a
def InK(L:List NQ)(K:Int->Prop)(i:Int)(c:Nat)(y:Int):Prop:=K y/\y < i/\∃ n,Ndq L y n/\cK n.d=c
def WfK(L:List NQ)(K:Int->Prop)(i:Int)(n:NQ):Prop:=
 (((n.d=3/\-999999999<=n.n/\n.n<=999999999)\/n.d=4)/\n.c=[])\/(n.d=6/\∀ y∈n.c,InK L K i 0 y)\/(n.d=19/\∀ y∈n.c,InK L K i 2 y)
  \/((n.d=5\/n.d=7\/n.d=12\/n.d=13\/n.d=17\/n.d=18)/\∃ y,n.c=[y]/\InK L K i 0 y)
  \/((n.d=8\/n.d=9\/n.d=14)/\∃ y z,n.c=[y,z]/\InK L K i 0 y/\InK L K i 0 z)
  \/((n.d=10\/n.d=11)/\∃ y z,n.c=[y,z]/\InK L K i 1 y/\InK L K i 1 z)
  \/((n.d=15\/n.d=16)/\∃ c b r,n.c=c::b::r/\InK L K i 1 c/\InK L K i 3 b/\(r=[]\/n.d=15/\∃ e,r=[e]/\InK L K i 3 e))
def Cl(L:List NQ)(K:Int->Prop):Prop:=∀ i,K i->∃ n,Ndq L i n/\WfK L K i n
section
variable {L:List NQ} {K G:Int->Prop} {i x y:Int} {c:Nat} {n:NQ}
theorem InK.mono(h:InK L K i c y)(a:∀ j,K j->G j):InK L G i c y:=⟨a _ h.1,h.2⟩
theorem WfK.mono(h:WfK L K i n)(d:∀ l,K l->G l):WfK L G i n:=by
 rcases h with h|⟨h,a⟩|⟨h,a⟩|⟨h,y,a,f⟩|⟨h,y,z,a,f,j⟩|⟨h,y,z,a,f,j⟩|⟨h,c,b,r,a,f,j,t⟩
 ·exact .l h
 ·exact .r (.l ⟨h,fun y k=>(a y k).mono d⟩)
 ·exact .r (.r (.l ⟨h,fun y k=>(a y k).mono d⟩))
 ·exact .r (.r (.r (.l ⟨h,y,a,f.mono d⟩)))
 ·exact .r (.r (.r (.r (.l ⟨h,y,z,a,f.mono d,j.mono d⟩))))
 ·exact .r (.r (.r (.r (.r (.l ⟨h,y,z,a,f.mono d,j.mono d⟩)))))
 ·exact .r (.r (.r (.r (.r (.r ⟨h,c,b,r,a,f.mono d,j.mono d,t.imp id (fun⟨o,e,p,q⟩=>⟨o,e,p,q.mono d⟩)⟩)))))
theorem Cl.or(h:Cl L K)(k:Cl L G):Cl L (fun j=>K j\/G j):=fun i hi=>hi.elim (fun e=>by
 obtain⟨n,a,b⟩:=h i e;exact⟨n,a,b.mono (fun _=> .l)⟩) (fun e=>by
 obtain⟨n,a,b⟩:=k i e;exact⟨n,a,b.mono (fun _=> .r)⟩)
theorem Cl.node(h:Cl L K)(d:Ndq L x n)(f:WfK L K x n):Cl L (fun j=>j=x\/K j):=fun i hi=>hi.elim (fun e=>by
 subst e;exact⟨n,d,f.mono (fun _=> .r)⟩) (fun e=>by
 obtain⟨n,a,b⟩:=h i e;exact⟨n,a,b.mono (fun _=> .r)⟩)
end
section
variable (H X U:Nat) (I A F:List Int) (m:Int) (Y vI D M:Value) (V:List V3) (C:List NQ)
def KD(xs:List Int)(f:Ns->Ns)(lo hi:Int)(c:Nat):Prop:=∃ K,bLQ H X U I A F m Y vI D M V C xs f lo hi K/\Cl C K/\∀ y∈xs,K y/\∃ n,Ndq C y n/\cK n.d=c
end
theorem KD.app{d j:List Int}{f g:Ns->Ns}{lo mid hi:Int}{c:Nat}(h:KD H X U I A F m Y vI D M V C d f lo mid c)(k:KD H X U I A F m Y vI D M V C j g mid hi c):KD H X U I A F m Y vI D M V C (d++j) (fun s=>g (f s)) lo hi c:=by
 obtain⟨K,l,o,a⟩:=h;obtain⟨G,q,r,b⟩:=k;refine⟨_,l.app q,o.or r,fun y p=>?_⟩;rcases List.mem_append.1 p with e|e
 ·exact⟨.l (a y e).1,(a y e).2⟩
 ·exact⟨.r (b y e).1,(b y e).2⟩
theorem KD.ins{d:List Int}{f:Ns->Ns}{lo hi x:Int}{c:Nat}(h:KD H X U I A F m Y vI D M V C d f lo hi c)(k:hi<=x):∃ K,bLQ H X U I A F m Y vI D M V C d f lo hi K/\Cl C K/\∀ y∈d,InK C K x c y:=by
 obtain⟨K,e,j,a⟩:=h;refine⟨K,e,j,fun y b=>⟨(a y b).1,?_,(a y b).2⟩⟩;have:=e.tame.2 y (a y b).1;omega
theorem bU7{t:Tr}(h:Ws 99 t):t= .nil:=by
 cases t with
 |nil=>rfl
 |node b o a l r=>
  unfold Ws at h;have e:sig 99 a.a=none:=by simp[sig]
  rw[e]at h;exact h.2.2.elim
theorem cAH{a:Nd}{c:Nat}(s:Ns)(h:a.a≠1/\a.a≠2/\a.a≠3/\a.a≠6/\a.a≠9/\a.a≠10):nm1 S FQ a c s=s:=by
 obtain⟨b,d,e,f,j,k⟩:=h;unfold nm1;simp[b,d,e,f,j,k]
theorem bZ0{n:NQ}(s:Ns)(h:15<=n.d):bN9 S FQ n s=s:=by
 have a:n.d≠4:=Oa
 have b:n.d≠13:=Oa
 have d:n.d≠5:=Oa
 have e:n.d≠14:=Oa
 have f:n.d≠6:=Oa
 have j:n.d≠8:=Oa
 unfold bN9 bML;simp[a,b,d,e,f,j]
theorem bNI{b o:Nat}{a:Nd}{l r:Tr}(h: ¬(a.a=9/\a.flag=true)):nmT S FQ (.node b o a l r)=fun s=>nmT S FQ r (nmT S FQ l (nm1 S FQ a (YtikffmloeifkpaaGreatDoor.aD l) s)):=
 funext fun s=>by rw[nmT,if_neg h]
theorem bPS{b o:Nat}{a:Nd}{l r:Tr}(h:a.a≠1/\a.a≠2/\a.a≠3/\a.a≠6/\a.a≠9/\a.a≠10):nmT S FQ (.node b o a l r)=fun s=>nmT S FQ r (nmT S FQ l s):=by
 rw[bNI (fun e=>h.2.2.2.2.1 e.1)]
 funext s
 rw[cAH _ h]
end
end Go.Proofs.YtikffmloeifkpaaGreatDoor
