/- Contracts. -/
import Derived.Test.YtikffmloeifkpaaGreatDoorR19
import Derived.Test.YtikffmloeifkpaaGreatDoorR21
import Derived.Test.YtikffmloeifkpaaGreatDoorR13
set_option maxHeartbeats 16000000
set_option maxRecDepth 100000
namespace Go.Proofs.YtikffmloeifkpaaGreatDoor
open Go.RowKit Go.Lib Go.Deep Go.ChangeMaps Go.MapKept Tryz
section
variable {T Q:List aU} {r:Rd} {st:QS}
theorem QTL.get:∀ {T Q:List aU},QTL T Q->T.length=Q.length/\∀ i,i < T.length->QT (aE T i) (aE Q i)
 |[],[],_=>⟨rfl,fun i hi=>absurd hi (Nat.not_lt_zero i)⟩
 |a::l,b::m,h=>by
  obtain⟨c,d⟩:=QTL.get h.2;refine⟨by simp[c],fun i hi=>?_⟩;cases i with
  |zero=>exact h.1
  |succ i=>exact d i (by simpa using hi)
structure Tw(T Q:List aU):Prop where
 len:T.length=Q.length
 tok:∀ i,i < T.length->QT (aE T i) (aE Q i)
 ends:eD T
 small:fX T
 some:0 < T.length
structure Ro(r:Rd)(st:QS):Prop where
 c:r.a=0
 d:st.a=0
 i:r.b=st.i
 o:r.c=st.op
 lo:0<=r.c
 hi:r.c<=10
structure Rf(r:Rd)(st:QS):Prop where
 c:r.a≠0
 d:st.a=r.a
 p:st.e=r.e
def Rl(r:Rd)(st:QS):Prop:=Ro r st\/Rf r st
theorem Rl.a(h:Rl r st):st.a=r.a:=by
 rcases h with h|h
 ·rw[h.c,h.d]
 ·exact h.d
theorem Rl.ok(h:Rl r st)(a:r.a=0):Ro r st:=h.resolve_right (fun e=>e.c a)
theorem aXQ{i j:Nat}(hi:3<=i)(b:i < 34)(c:3<=j)(a:j < 34)(h:sp i=sp j):i=j:=by
 have h0:(List.range 34).all (fun i=>(List.range 34).all (fun j=>decide (3<=i->3<=j->sp i=sp j->i=j)))=true:=by decide+kernel
 exact of_decide_eq_true (List.all_eq_true.1 (List.all_eq_true.1 h0 i (List.mem_range.2 b)) j (List.mem_range.2 a)) hi c h
theorem QT.at_{t q:aU}(h:QT t q){k:Nat}(e:3<=k)(h0:k < 34):(decide (q.d=3)&&decide (q.f=sp k))=decide (t.d=(k:Int)):=by
 rcases h.2 with⟨a,b,_⟩|⟨a,b,_⟩|⟨a,b,_⟩|⟨a,b,c,d⟩
 ·rw[decide_eq_false (p:=q.d=3) Oa,decide_eq_false (p:=t.d=(k:Int)) Oa];rfl
 ·rw[decide_eq_false (p:=q.d=3) Oa,decide_eq_false (p:=t.d=(k:Int)) Oa];rfl
 ·rw[decide_eq_false (p:=q.d=3) Oa,decide_eq_false (p:=t.d=(k:Int)) Oa];rfl
 ·rw[decide_eq_true c,Bool.true_and,decide_eq_decide,d];constructor
  ·intro h;have:=aXQ Oa Oa e h0 h;omega
  ·intro h;rw[h];rfl
theorem QT.any_{t q:aU}(h:QT t q){all:ByteArray}{Y:List Int}(g:(List.range 34).all (fun k=>decide (k < 3)||(inQ (sp k) all==aM Y k))=true)(h0:aM Y 0=false)(e:aM Y 1=false)(f:aM Y 2=false):(decide (q.d=3)&&inQ q.f all)=aM Y t.d:=by
 rcases h.2 with⟨a,b,_⟩|⟨a,b,_⟩|⟨a,b,_⟩|⟨a,b,c,d⟩
 ·rw[decide_eq_false Oa,a,h0];rfl
 ·rw[decide_eq_false Oa,a,e];rfl
 ·rw[decide_eq_false Oa,a,f];rfl
 ·rw[decide_eq_true c,Bool.true_and,d];have:=List.all_eq_true.1 g t.d.toNat (List.mem_range.2 Oa);rw[decide_eq_false Oa,Bool.false_or,beq_iff_eq]at this;rw[this]
  congr 1
  omega
theorem QT.y0{t q:aU}(h:QT t q):(q.d=1↔t.d=1)/\(q.d=2↔t.d=2)/\(q.d=0↔t.d=0):=by
 rcases h.2 with⟨a,b,_⟩|⟨a,b,_⟩|⟨a,b,_⟩|⟨a,b,c,_⟩
 all_goals omega
theorem fY(T:List aU)(r:Rd)(k:Int):aF T r [k]=decide ((aE T r.b).d=k):=by
 unfold aF aM;rw[Bool.eq_iff_iff];simp
theorem aF1{Y:List Int}(h:(aE T r.b).d ∉ Y):aF T r Y=false:=by
 rw[Bool.eq_false_iff];intro a;exact h (List.contains_iff_mem.1 a)
theorem aKB{Y:List Int}(h:(aE T r.b).d∈Y):aF T r Y=true:=List.contains_iff_mem.2 h
theorem aVD{k:Nat}(a:3<=k):aM [(k:Int)] 0=false:=by
 unfold aM;rw[Bool.eq_false_iff];simp;omega
theorem nQ(d:Tw T Q)(c:Ro r st)(b:r.b < T.length){k:Nat}(a:3<=k)(h0:k < 34):dF Q st (sp k)=aF T r [(k:Int)]:=by
 rw[fY];have:=(d.tok r.b b).at_ a h0;unfold dF;rw[<-c.i];exact this
theorem aLX(f:Tw T Q)(e:Ro r st)(d:r.b < T.length){all:ByteArray}{Y:List Int}(c:(List.range 34).all (fun k=>decide (k < 3)||(inQ (sp k) all==aM Y k))=true)(h0:aM Y 0=false)(a:aM Y 1=false)(b:aM Y 2=false):qM Q st all=aF T r Y:=by
 have:=(f.tok r.b d).any_ c h0 a b;unfold qM aF;rw[<-e.i];exact this
theorem aI2{Y:List Int}(h:aF T r Y=true)(h0:aM Y 0=false):(aE T r.b).d≠0:=fun e=>by
 unfold aF at h;rw[e,h0]at h;cases h
theorem jT(c:Tw T Q)(a:Ro r st)(b:r.b < T.length){Y:List Int}(h:aF T r Y=true)(h0:aM Y 0=false):Ro (r.take T Y) (aG Q st)/\(r.take T Y).b=r.b+1/\bX T r Y=aE T r.b/\r.b+1 < T.length:=by
 have d:=aI2 h h0
 have f:(aE Q st.i).d≠0:=by
  rw[<-a.i];exact fun e=>d ((c.tok r.b b).y0.2.2.1 e)
 unfold Rd.take bX aG;rw[if_pos h,if_pos h,if_pos f];exact⟨⟨a.c,a.d,by show r.b+1=st.i+1;rw[a.i],a.o,a.lo,a.hi⟩,rfl,rfl,aAU c.ends b h h0⟩
theorem nU(c:Tw T Q)(a:Ro r st)(b:r.b < T.length){Y:List Int}(h:aF T r Y=false):Rf (r.take T Y) (dW Q st):=by
 unfold Rd.take dW Rd.fail;rw[if_neg (by simp[h]),if_pos a.c,if_pos a.d];refine⟨Od,rfl,?_⟩;show(aE Q st.i).e=(aE T r.b).e;rw[<-a.i];exact(c.tok r.b b).1
theorem aCN(n:Nat)(c p:Int)(h:r.a≠0):(r.fail n c p).a=r.a/\(r.fail n c p).e=r.e:=by
 unfold Rd.fail;rw[if_neg h];exact⟨rfl,rfl⟩
theorem eU(Y:List Int)(h:r.a≠0):(r.take T Y).a=r.a/\(r.take T Y).e=r.e:=by
 unfold Rd.take
 split
 ·exact⟨rfl,rfl⟩
 ·exact aCN _ _ _ h
theorem qT(Y:List Int)(_:r.a≠0):(r.b0 T Y).a=r.a/\(r.b0 T Y).e=r.e:=by
 unfold Rd.b0
 split<;>exact⟨rfl,rfl⟩
theorem yM(n:Nat)(p:Int)(h:r.a≠0):(r.l0 n p).a=r.a/\(r.l0 n p).e=r.e:=by
 unfold Rd.l0
 split
 ·exact aCN (r:=⟨r.b,r.c+1,r.a,r.e⟩) _ _ _ h
 ·exact⟨rfl,rfl⟩
theorem oQ(Y:List Int)(h:r.a≠0):(r.a0 T Y).a=r.a/\(r.a0 T Y).e=r.e:=by
 obtain⟨a,b⟩:=eU (T:=T) Y h;obtain⟨c,d⟩:=yM (r:=r.take T Y) T.length (bX T r Y).e (by rw[a];exact h);exact⟨c.t a,d.t b⟩
theorem lO(k:Int)(h:r.a≠0):(r.h0 T k).a=r.a/\(r.h0 T k).e=r.e:=eU [k] h
theorem Rf.to{b:Rd}{st':QS}(h:Rf r st)(a:b.a=r.a/\b.e=r.e)(c:st'.a=st.a/\st'.e=st.e):Rf b st':=
 ⟨by rw[a.1];exact h.c,by rw[a.1,c.1];exact h.d,by rw[a.2,c.2];exact h.p⟩
theorem Rf.gr{a:Rd}{st':QS}{n:Nat}(h:Rf r st)(b:a.a=r.a/\a.e=r.e)(c:Gr st st' n):Rf a st':=h.to b (c.stick (by rw[h.d];exact h.c))
theorem aC3(c:Tw T Q)(a:Rl r st)(b:r.b < T.length){k:Nat}(d:3<=k)(h0:k < 34):Rl (r.take T [(k:Int)]) (cO Q (sp k) st):=by
 rcases a with a|a
 ·have e:=nQ c a b d h0;unfold cO;rw[if_neg (by simp[a.d]),e];cases hs:aF T r [(k:Int)]
  ·exact .r (by simpa using nU c a b hs)
  ·exact .l (by simpa using(jT c a b hs (aVD d)).1)
 ·exact .r (a.gr (eU _ a.c) (Gr.must Q _ st))
theorem uM(g:Tw T Q)(a:Rl r st)(d:r.b < T.length){k:Int}(i:k=1\/k=2):Rl (r.take T [k]) (cX Q k st)/\((r.take T [k]).a=0->bX T r [k]=aE T r.b/\dC Q k st=aE Q st.i/\QT (aE T r.b) (aE Q st.i)/\(aE T r.b).d=k/\(r.take T [k]).b=r.b+1):=by
 rcases a with a|a
 ·have f:=g.tok r.b d
  have h0:(aE Q st.i).d=k↔(aE T r.b).d=k:=by
   rw[<-a.i];rcases i with rfl|rfl
   ·exact f.y0.1
   ·exact f.y0.2.1
  unfold cX dC;cases hs:aF T r [k]
  ·have b: ¬(aE T r.b).d=k:=by rw[fY]at hs;exact of_decide_eq_false hs
   have c:(aE Q st.i).d≠k:=fun e=>b (h0.1 e);have:=nU g a d hs;rw[if_pos c];exact⟨.r this,fun h=>absurd h this.c⟩
  ·have b:(aE T r.b).d=k:=by rw[fY]at hs;exact of_decide_eq_true hs
   have c: ¬(aE Q st.i).d≠k:=fun e=>e (h0.2 b);obtain⟨j,l,m,_⟩:=jT g a d hs (by rcases i with rfl|rfl<;>decide);rw[if_neg c,if_neg c];exact⟨.l j,fun _=>⟨m,rfl,a.i ▸ f,b,l⟩⟩
 ·exact⟨.r (a.gr (eU _ a.c) (Gr.knd Q k st)),fun h=>absurd ((eU (T:=T) [k] a.c).1 ▸ h) a.c⟩
theorem aK1{v:Int}(h:-100<=v/\v<=2000000000):wrap64 v=v:=by unfold wrap64;omega
theorem aA0(e:Tw T Q)(a:Rl r st)(d:r.b < T.length){k:Nat}(m:3<=k)(p:k < 34):Rl (r.a0 T [(k:Int)]) (aO Q (sp k) st)/\((r.a0 T [(k:Int)]).a=0->(r.a0 T [(k:Int)]).c=r.c+1/\r.c+1<=10):=by
 rcases a with a|a
 ·have j:=nQ e a d m p;have t:=e.tok r.b d;have x:=a.lo;have w:=a.hi;have o:wrap64 (st.op+1)=r.c+1:=by rw[<-a.o];exact aK1 Oa
  unfold aO Rd.a0 Rd.l0;rw[j,o];cases hs:aF T r [(k:Int)]
  ·have b:=nU e a d hs;have g:=yM (r:=r.take T [(k:Int)]) T.length (bX T r [(k:Int)]).e b.c;unfold Rd.l0 at g
   have s:Rf (r.take T [(k:Int)]) (cO Q (sp k) {st with op:=r.c+1}):=by
    unfold cO;rw[if_neg (by simp[a.d])];have:dF Q {st with op:=r.c+1} (sp k)=false:=j.t hs;rw[this];exact⟨b.c,by have:=b.d;simpa[dW,a.d]using this,by have:=b.p;simpa[dW,a.d]using this⟩
   rw[if_neg (c:=false=true/\st.a=0/\st.op=10) Od];exact⟨.r (s.to g ⟨rfl,rfl⟩),fun h=>absurd (g.1 ▸ h) b.c⟩
  ·obtain⟨f,u,n,v⟩:=jT e a d hs (aVD m);have h0:(r.take T [(k:Int)]).c=r.c:=by unfold Rd.take;rw[if_pos hs];rfl
   rw[h0]
   by_cases i:10 < r.c+1
   ·rw[if_pos i,if_pos ⟨rfl,a.d,by rw[<-a.o];omega⟩];have q:Rd.fail T.length ⟨(r.take T [(k:Int)]).b,r.c+1,(r.take T [(k:Int)]).a,(r.take T [(k:Int)]).e⟩ 6 (bX T r [(k:Int)]).e=⟨T.length - 1,r.c+1,6,(bX T r [(k:Int)]).e⟩:=by unfold Rd.fail;rw[if_pos f.c]
    rw[q];refine⟨.r ?_,fun h=>by simp at h⟩;unfold cO;rw[if_pos Od];refine⟨Od,rfl,?_⟩;show(aE Q st.i).e=(bX T r [(k:Int)]).e;rw[n,<-a.i];exact t.1
   ·rw[if_neg i,if_neg (fun h=>i (by have:=h.2.2;rw[<-a.o]at this;omega))];refine⟨.l ?_,fun _=>⟨rfl,Oa⟩⟩;have:dF Q {st with op:=r.c+1} (sp k)=true:=j.t hs;unfold cO;rw[if_neg (by simp[a.d]),if_pos this];refine⟨f.c,?_,?_,?_,by show 0<=r.c+1;omega,by show r.c+1<=10;omega⟩
    ·unfold aG;split<;>exact a.d
    ·have:=f.i;unfold aG at this ⊢
     by_cases l:(aE Q st.i).d≠0
     ·rw[if_pos l]at this ⊢;exact this
     ·rw[if_neg l]at this ⊢;exact this
    ·unfold aG;split<;>rfl
 ·exact⟨.r (a.gr (oQ _ a.c) (Gr.opn Q _ st)),fun h=>absurd ((oQ (T:=T) [(k:Int)] a.c).1 ▸ h) a.c⟩
theorem xQ(d:Tw T Q)(a:Rl r st)(b:r.b < T.length)(i:r.a=0->1<=r.c){k:Nat}(h:3<=k)(l:k < 34):Rl (r.h0 T (k:Int)) (cN Q (sp k) st):=by
 rcases a with a|a
 ·have q:=i a.c;have p:=a.hi;have j:wrap64 (st.op - 1)=r.c - 1:=by rw[<-a.o];exact aK1 Oa
  have g:=nQ d a b h l;unfold cN Rd.h0 cO;rw[j,if_neg (by simp[a.d])];cases hs:aF T r [(k:Int)]
  ·have c:=nU d a b hs;have:dF Q {st with op:=r.c - 1} (sp k)=false:=g.t hs;rw[this];exact .r ⟨c.c,by have:=c.d;simpa[dW,a.d]using this,by have:=c.p;simpa[dW,a.d]using this⟩
  ·obtain⟨e,m,n,o⟩:=jT d a b hs (aVD h);have h0:(r.take T [(k:Int)]).c=r.c:=by unfold Rd.take;rw[if_pos hs];rfl
   have:dF Q {st with op:=r.c - 1} (sp k)=true:=g.t hs;rw[if_pos this];refine .l ⟨e.c,?_,?_,?_,by show 0<=_ - 1;rw[h0];omega,by show _ - 1<=10;rw[h0];omega⟩
   ·unfold aG;split<;>exact a.d
   ·have:=e.i;unfold aG at this ⊢
    by_cases f:(aE Q st.i).d≠0
    ·rw[if_pos f]at this ⊢;exact this
    ·rw[if_neg f]at this ⊢;exact this
   ·show(r.take T [(k:Int)]).c - 1=_;rw[h0];unfold aG
    split<;>rfl
 ·exact .r (a.gr (lO _ a.c) (Gr.h0 Q _ st))
end
section
variable {T Q:List aU} {r:Rd} {st:QS} {N M:Nat}
def jM(L:List NQ)(x:Int)(n:NQ):Prop:=0<=x/\L[x.toNat]?=some n
theorem jM.mono{L a:List NQ}{x:Int}{n:NQ}(h:jM L x n)(b:L <+:a):jM a x n:=by
 obtain⟨M,rfl⟩:=b;have h0:=(List.getElem?_eq_some_iff.1 h.2).1;exact⟨h.1,by rw[List.getElem?_append_left h0];exact h.2⟩
theorem aS1(a:NQ)(st:QS):(st.L.length:Int) < (cQ a st).L.length:=by
 grind[cQ]
theorem jM.last(st:QS)(a:NQ):jM (cQ a st).L st.L.length {a with f:=-1}:=⟨Oa,by simp[cQ]⟩
theorem jM.at{st:QS}{a:NQ}{x:Int}(b:x=st.L.length):jM (cQ a st).L x {a with f:=-1}:=b ▸ jM.last st a
def NX(L:List NQ):Tr->List Int->Int->Int->Prop
 | .nil,xs,lo,hi=>xs=[]/\lo<=hi
 | .node _ _ a l r,xs,lo,hi=>
  if a.a=15 then ∃ x ys m,xs=x::ys/\NX L l [x] lo m/\NX L r ys m hi
  else if a.a=20 then NX L l xs lo hi
  else if a.a=4 then NX L l xs lo hi
  else if a.a=18 then ∃ b n,jM L b n/\n.d=19/\NX L l n.c lo b/\((xs=[b]/\r= .nil/\b < hi)\/∃ e m,xs=[b,e]/\jM L e m/\m.d=19/\NX L r m.c (b+1) e/\e < hi)
  else ∃ x n,xs=[x]/\jM L x n/\lo<=x/\x < hi/\
   (if a.a=0 then n.d=3/\n.n=a.g/\n.c=[]
   else if a.a=1 then n.d=4/\n.at_=a.b/\n.s=a.h/\n.c=[]
   else if a.a=2 then n.d=5/\n.at_=a.b/\n.s=a.h/\(∃ y,n.c=[y]/\NX L l [y] lo x)
   else if a.a=3 then n.d=6/\n.at_=a.b/\n.s=a.h/\NX L l n.c lo x
   else if a.a=5 then n.d=7/\(∃ y,n.c=[y]/\NX L l [y] lo x)
   else if a.a=6 then n.d=8/\n.at_=a.e/\n.s=sp a.op.toNat/\(∃ y z m,n.c=[y,z]/\NX L l [y] lo m/\NX L r [z] m x)
   else if a.a=7 then n.d=9/\n.s=sp a.op.toNat/\(∃ y z m,n.c=[y,z]/\NX L l [y] lo m/\NX L r [z] m x)
   else if a.a=8 then n.d=(if a.op=32 then 10 else 11)/\(∃ y z m,n.c=[y,z]/\NX L l [y] lo m/\NX L r [z] m x)
   else if a.a=9 then n.d=(if a.flag then 12 else 13)/\n.at_=a.b/\n.s=a.h/\(∃ y,n.c=[y]/\NX L l [y] lo x)
   else if a.a=10 then n.d=14/\n.at_=a.b/\n.s=a.h/\(∃ y z m,n.c=[y,z]/\NX L l [y] lo m/\NX L r [z] m x)
   else if a.a=11 then n.d=15/\(∃ y ys m,n.c=y::ys/\NX L l [y] lo m/\NX L r ys m x)
   else if a.a=12 then n.d=16/\(∃ y b m k,n.c=[y,b]/\NX L l [y] lo k/\jM L b m/\m.d=19/\NX L r m.c k b/\b < x)
   else if a.a=13 then n.d=17/\(∃ y,n.c=[y]/\NX L l [y] lo x)
   else n.d=18/\(∃ y,n.c=[y]/\NX L l [y] lo x))
theorem jM.lt{L:List NQ}{x:Int}{n:NQ}(h:jM L x n):x < L.length:=by
 have:=(List.getElem?_eq_some_iff.1 h.2).1;omega
theorem NX.mono{L d:List NQ}(g:L <+:d):∀ (t:Tr) (k:List Int) (lo hi:Int),NX L t k lo hi->NX d t k lo hi:=by
 intro t
 induction t with
 |nil=>exact fun _ _ _ h=>h
 |node b o a l r ihl ihr=>
  intro k lo hi h;unfold NX at h ⊢
  by_cases F:a.a=15
  ·grind
  rw[if_neg F]at h ⊢
  by_cases E:a.a=20
  ·grind
  rw[if_neg E]at h ⊢
  by_cases w:a.a=4
  ·grind
  rw[if_neg w]at h ⊢
  by_cases k0:a.a=18
  ·rw[if_pos k0]at h ⊢;obtain⟨x,n,i,j,c,f⟩:=h;refine⟨x,n,i.mono g,j,Qh,?_⟩;rcases f with f|⟨e,m,f,A,B,Z,C⟩
   ·simp[*]
   ·exact .r ⟨e,m,f,A.mono g,B,Qh,C⟩
  rw[if_neg k0]at h ⊢;obtain⟨x,n,i,j,h0,G,c⟩:=h;refine⟨x,n,i,j.mono g,h0,G,?_⟩;have one:(∃ y,n.c=[y]/\NX L l [y] lo x)->∃ y,n.c=[y]/\NX d l [y] lo x:=Qg;have two:(∃ y z m,n.c=[y,z]/\NX L l [y] lo m/\NX L r [z] m x)->∃ y z m,n.c=[y,z]/\NX d l [y] lo m/\NX d r [z] m x:=Qg
  by_cases t0:a.a=0
  ·grind
  rw[if_neg t0]at c ⊢
  by_cases H:a.a=1
  ·grind
  rw[if_neg H]at c ⊢
  by_cases O:a.a=2
  ·grind
  rw[if_neg O]at c ⊢
  by_cases P:a.a=3
  ·grind
  rw[if_neg P]at c ⊢
  by_cases R:a.a=5
  ·grind
  rw[if_neg R]at c ⊢
  by_cases S:a.a=6
  ·grind
  rw[if_neg S]at c ⊢
  by_cases U:a.a=7
  ·grind
  rw[if_neg U]at c ⊢
  by_cases V:a.a=8
  ·grind
  rw[if_neg V]at c ⊢
  by_cases W:a.a=9
  ·grind
  rw[if_neg W]at c ⊢
  by_cases I:a.a=10
  ·grind
  rw[if_neg I]at c ⊢
  by_cases J:a.a=11
  ·grind
  rw[if_neg J]at c ⊢
  by_cases K:a.a=12
  ·rw[if_pos K]at c ⊢;obtain⟨p,y,b,m,D,q,X,s,u,Y,v⟩:=c;exact⟨p,y,b,m,D,q,Qh,s.mono g,u,Qh,v⟩
  grind
theorem NX.le{L:List NQ}:∀ {t:Tr} {c:List Int} {lo hi:Int},NX L t c lo hi->lo<=hi:=by
 intro t
 induction t with
 |nil=>exact fun h=>h.2
 |node b o a l r ihl ihr=>
  grind[NX]
def sH(S:Pr):Prop:=∀ r,r.a≠0->(S r).1.a=r.a/\(S r).1.e=r.e
structure Smx(X:Int->List NQ->Tr->Int->Prop)(T Q:List aU)(N:Nat)(S:Pr)(P:QS->QS × Int):Prop where
 stk:sH S
 go:bV T S
 gr:∃ n,∀ st,Gr st (P st).1 n
 run:∀ r st,Ro r st->r.b < T.length->T.length - r.b<=N->Rl (S r).1 (P st).1/\((S r).1.a=0->X st.L.length (P st).1.L (S r).2 (P st).2)
abbrev Sm:=Smx (fun lo L t x=>NX L t [x] lo L.length)
theorem Smx.le{X:Int->List NQ->Tr->Int->Prop}{S:Pr}{P:QS->QS × Int}(h:Smx X T Q N S P)(d:M<=N):Smx X T Q M S P:=⟨h.stk,h.go,h.gr,fun r st a b c=>h.run r st a b Oa⟩
theorem Smx.all{X:Int->List NQ->Tr->Int->Prop}{S:Pr}{P:QS->QS × Int}(h:Smx X T Q N S P)(a:Rl r st)(f:r.b < T.length)(e:r.a=0->T.length - r.b<=N):Rl (S r).1 (P st).1/\((S r).1.a=0->r.a=0/\X st.L.length (P st).1.L (S r).2 (P st).2):=by
 rcases a with a|a
 ·obtain⟨c,d⟩:=h.run r st a f (e a.c);exact⟨c,fun b=>⟨a.c,d b⟩⟩
 ·obtain⟨n,g⟩:=h.gr;have i:=h.stk r a.c;exact⟨.r (a.gr i (g st)),fun b=>absurd (Oa) a.c⟩
theorem uI{S:Pr}(a:sH S)(Z:List Int):∀ n r v,r.a≠0->(jF T S Z n r v).1.a=r.a/\(jF T S Z n r v).1.e=r.e:=by
 intro n
 induction n with
 |zero=>exact fun _ _ _=>Qj
 |succ n ih=>
  intro r v h;unfold jF
  split
  ·obtain⟨b,c⟩:=eU (T:=T) Z h;obtain⟨d,e⟩:=a (r.take T Z) Oa;simp[*]
  trivial
theorem aKH(j:Tw T Q){S:Pr}{P:QS->QS × Int}(g:Sm T Q N S P){all:ByteArray}{Z:List Int}(A:(List.range 34).all (fun k=>decide (k < 3)||(inQ (sp k) all==aM Z k))=true)(h0:aM Z 0=false)(w:aM Z 1=false)(z:aM Z 2=false):
 ∀ n k r st x v (lo:Int),Ro r st->r.b < T.length->T.length - r.b<=N->T.length - r.b<=n->T.length - r.b<=k->NX st.L v [x] lo st.L.length->
  Rl (jF T S Z n r v).1 (nK Q P all k x st).1/\((jF T S Z n r v).1.a=0->NX (nK Q P all k x st).1.L (jF T S Z n r v).2 [(nK Q P all k x st).2] lo (nK Q P all k x st).1.L.length):=by
 intro n
 induction n with
 |zero=>omega
 |succ n ih=>
  intro k r st x v lo f i K W R q;obtain⟨k,rfl⟩:∃ F,k=F+1:=⟨k - 1,Oa⟩;have E:=aLX j f i A h0 w z;unfold jF nK;rw[E];cases hs:aF T r Z
  ·rw[if_neg Od,if_neg Od];exact⟨.l f,Qh⟩
  ·rw[if_pos rfl,if_pos ⟨rfl,f.d⟩];obtain⟨t,H,u,I⟩:=jT j f i hs h0;obtain⟨b,G⟩:=g.run _ _ t Oa Oa;have o:=g.go (r.take T Z) Oa;have O:=o.ge;obtain⟨J,k0⟩:=g.gr;have m:=k0 (aG Q st);have l:=j.tok r.b i;generalize D:({d:=8,at_:=(aE Q st.i).e,s:=(aE Q st.i).f,c:=[x,(P (aG Q st)).2]}:NQ)=X;rcases b with b|b
   ·have U:aM Z (aE T r.b).d=true:=hs;refine ih k _ _ _ _ lo ⟨b.c,b.d,b.i,b.o,b.lo,b.hi⟩ o.lt Oa Oa Oa ?_;unfold mk NX;rw[if_neg Od,if_neg Od,if_neg Od,if_neg Od];have C:=m.pre.length_le;rw[aV]at C;have V:=q.le;refine⟨_,_,rfl,jM.last _ X,Oa,aS1 _ _,?_⟩;rw[if_neg Od,if_neg Od,if_neg Od,if_neg Od,if_neg Od,if_pos rfl,u,<-D];refine⟨rfl,?_,?_,x,_,st.L.length,rfl,?_,?_⟩
    ·show(aE Q st.i).e=(aE T r.b).e;rw[<-f.i];exact l.1
    ·show(aE Q st.i).f=sp (aE T r.b).d.toNat;rw[<-f.i];rcases l.2 with⟨e1,_⟩|⟨e1,_⟩|⟨e1,_⟩|⟨_,_,_,e1⟩
     ·grind
     ·grind
     ·grind
     ·exact e1
    ·refine NX.mono ?_ _ _ _ _ q;have:=m.pre;rw[aV]at this;exact this.t (List.prefix_append _ _)
    ·have p:=G b.c;rw[aV]at p;exact NX.mono (List.prefix_append _ _) _ _ _ _ p
   ·have B:=uI (T:=T) g.stk Z n _ (mk {a:=6,op:=(bX T r Z).d,e:=(bX T r Z).e} v (S (r.take T Z)).2) b.c
    have Y:∀ k y,(nK Q P all k y (cQ X (P (aG Q st)).1)).1.a=(P (aG Q st)).1.a/\(nK Q P all k y (cQ X (P (aG Q st)).1)).1.e=(P (aG Q st)).1.e:=by
     intro k y;cases k with
     |zero=>trivial
     |succ k=>
      unfold nK;rw[if_neg (fun h=>b.c (b.d.symm.t h.2))];trivial
    exact⟨.r (b.to B Qh),fun L=>absurd (Oa) b.c⟩
theorem aF8(c:Tw T Q){S:Pr}{P:QS->QS × Int}(b:Sm T Q N S P)(e:oG P){all:ByteArray}{Z:List Int}(p:(List.range 34).all (fun k=>decide (k < 3)||(inQ (sp k) all==aM Z k))=true)(h0:aM Z 0=false)(m:aM Z 1=false)(o:aM Z 2=false){n:Nat}(x:N<=n):
 Sm T Q N (lX T S Z n) (mZ Q P all):=by
 refine⟨fun r h=>?_,zK c.ends b.go h0 n,⟨1,e.chain all⟩,fun r st t f s=>?_⟩
 ·obtain⟨g,i⟩:=b.stk r h;obtain⟨j,l⟩:=uI (T:=T) b.stk Z n (S r).1 (S r).2 Oa;exact⟨j.t g,l.t i⟩
 ·obtain⟨a,u⟩:=b.run r st t f s;have d:=b.go r f;have:=d.ge;have w:=c.len;unfold lX mZ;rcases a with a|a
  ·exact aKH c b p h0 m o n Q.length _ _ _ _ _ a d.lt Oa Oa Oa (u a.c)
  ·have q:=uI (T:=T) b.stk Z n (S r).1 (S r).2 a.c;exact⟨.r (a.gr q (e.loop all _ _ _)),fun v=>absurd (Oa) a.c⟩
end
section
variable {H X U:Nat} {L:List NQ} {I A F:List Int} {m:Int} {s:Ns} {Y vI D M B R:Value} {V:List V3} {w:World} {S:List (ByteArray × Int)}
structure aBX(L:List NQ)(I:List Int)(S:List (ByteArray × Int)):Prop where
 len:S.length=I.length
 at_:∀ (i:Nat) (x:Int),I[i]?=some x->∃ n,jM L x n/\S[i]?=some (n.s,n.d)
theorem dQ{v:Value}{l:List Int}(h:w.ownsRow H 3 1 v l.length (fQ l)){i:Nat}{y:Int}(hi:l[i]?=some y):∃ g J,v= Qe g l.length J/\w.cell? ⟨g,i,none⟩=some (Qc y):=by
 have e:=(List.getElem?_eq_some_iff.1 hi).1;obtain⟨_,a⟩:=h;rcases a with⟨_,f⟩|⟨g,J,b,h0,_,d,_,_,_,j⟩
 ·omega
 ·refine⟨g,J,h0,?_⟩;have c:(fQ l)[i]?=some (Qc y):=by simp[fQ,hi]
  grind[cell_of_row]
theorem pU{α:Type}{l:List α}{i:Nat}{y:α}(h:l[i]?=some y):l.drop i=y::l.drop (i+1):=by
 grind[List.getElem?_eq_some_iff,List.drop_eq_getElem_cons,List.getElem?_eq_getElem,Option.some.inj]
theorem gZ.p0(h:gZ H X U L I A F m s Y vI D M B R V w){k:Nat}{a:NQ}(hi:L[k]?=some a):∃ g J a1 c1 c c2 d c3,Y= Qe g L.length J/\V[k]?=some (.slice a1 a.c.length c1,.slice c a.g.length c2,.slice d a.e.length c3)/\uA H w a (.slice a1 a.c.length c1,.slice c a.g.length c2,.slice d a.e.length c3)/\(w.cell? ⟨g,k*11,none⟩=some (Qc a.d)/\w.cell? ⟨g,k*11+1,none⟩=some (Qc a.at_)/\w.cell? ⟨g,k*11+2,none⟩=some (.string a.s)/\w.cell? ⟨g,k*11+3,none⟩=some (Qc a.n)/\w.cell? ⟨g,k*11+4,none⟩=some (Qc a.mid)/\w.cell? ⟨g,k*11+5,none⟩=some (.slice a1 a.c.length c1)/\w.cell? ⟨g,k*11+6,none⟩=some (.slice c a.g.length c2)/\w.cell? ⟨g,k*11+7,none⟩=some (.slice d a.e.length c3)/\w.cell? ⟨g,k*11+8,none⟩=some (Qc a.b)/\w.cell? ⟨g,k*11+9,none⟩=some (Qc a.ref)/\w.cell? ⟨g,k*11+10,none⟩=some (Qc a.f))/\(∀ o,w.frozen? ⟨g,o,none⟩=false)/\g < w.1.size:=by
 obtain⟨g,J,⟨p,q,t⟩,j,l,e,b,n⟩:=h.node hi;obtain⟨a1,c1,rfl,_⟩:=bP e.k;obtain⟨c,c2,f,_⟩:=bP e.p;obtain⟨d,c3,i,_⟩:=bP e.h;dsimp only at f i;subst f i;exact⟨g,J,a1,c1,c,c2,d,c3,j,l,e,⟨b 0 Oa,b 1 Oa,b 2 Oa,b 3 Oa,b 4 Oa,b 5 Oa,b 6 Oa,b 7 Oa,b 8 Oa,b 9 Oa,b 10 Oa⟩,n,Qp w ⟨g,k*11,none⟩ (b 0 Oa)⟩
abbrev rJ(a:NQ)(a1:Option Addr)(c1:Nat)(a2:Option Addr)(c2:Nat)(a3:Option Addr)(c3:Nat):Obj:= Qf #[Qc a.d,Qc a.at_,.string a.s,Qc a.n,Qc a.mid,.slice a1 a.c.length c1,.slice a2 a.g.length c2,.slice a3 a.e.length c3,Qc a.b,Qc a.ref,Qc a.f] 73
theorem aL6(x:ByteArray)(b:Int)(hI:aBX L I S)(hz:I.length<=100000)(_:L.length<=200000)(h:gZ H X U L I A F m s Y vI D M B R V w):Calls prog 64 #[Qd X,.string x,Qc b] w fun e w'=>e= .returned (Qc (dA x b S 0))/\Below w.1.size w w':=by
 obtain⟨ai,ci,rfl,_⟩:=bP h.its;have O:Hid (dA x b S 0=dA x b (S.drop 0) 0):=by rw[List.drop_zero];rfl
 go_enter func64,ntmps64
 go_wp2_with fail
 go_loopg [7,8] (I.length+1) (fun k v7 v8 wr=>∃ (i:Nat) (n:Nat),v7= Qc n/\v8= Qc i/\Below w.1.size w wr/\i+k=I.length+1/\n<=i/\dA x b S 0=dA x b (S.drop i) n)
 case atStart=>exact⟨0,0,rfl,rfl,Below.refl _ _,Oa,Ql _,O.o⟩
 case round=>
  obtain⟨i,n,rfl,rfl,u,b2,b5,f⟩:=hrel;have v:Hid (dA x b S 0=dA x b (S.drop i) n):=f;have C:=h.same u.block u.size;obtain⟨⟨c0,_⟩,g0,g1,_⟩:=C.cells;clear f O
  by_cases hi:i < I.length
  ·obtain⟨J,E⟩:∃ J,I[i]?=some J:=⟨I[i],by simp[hi]⟩;obtain⟨P,y,W⟩:=hI.at_ i J E;obtain⟨g,a3,hv,h0⟩:=dQ C.its E;obtain⟨k,rfl⟩:=Int.eq_ofNat_of_zero_le y.1;obtain⟨gr,a5,a1,p,l,q,o,t,h8,_,_,⟨e0,e1,e2,e3,e4,e5,e6,e7,e8,e9,a2⟩,_,a9⟩:=C.p0 (k:=k) (a:=P) (by have:=y.2;simpa using this);have b3:=y.lt;have hb:0<=(i:Int)/\(i:Int) < (I.length:Int):=Oa
   have a6:0<=(k:Int)/\(k:Int) < (L.length:Int):=Oa
   have t0:decide ((i:Int) < (I.length:Int))=true:=by simp;omega
   simp only[Value.slice.injEq]at hv;obtain⟨rfl,_,rfl⟩:=hv;subst h8;obtain⟨m2,rfl⟩:=Oj gk;have b6:IntKind.i64.wrap ((i:Int)+1)=(i:Int)+1:=IntWalk.i64_in _ Oa;have b7:IntKind.i64.wrap ((n:Int)+1)=(n:Int)+1:=IntWalk.i64_in _ Oa;have K:Hid (S.drop i=(P.s,P.d)::S.drop (i+1)):=pU W;have b4:X < wr.1.size:=Qp wr _ c0;have a7:U < wr.1.size:=Qp wr _ g0;have a8:g < wr.1.size:=Qp wr _ h0;have Z:Below w.1.size w (wr.alloc (rJ P a1 p l q o t)).drew:=(u.alloc u.size _).drew;have l0:(wr.alloc (rJ P a1 p l q o t)).drew.cell? ⟨wr.1.size,0,none⟩=some (Qc P.d):=cell_of_row _ _ _ _ _ _ (Qk wr (rJ P a1 p l q o t));have l2:(wr.alloc (rJ P a1 p l q o t)).drew.cell? ⟨wr.1.size,2,none⟩=some (.string P.s):=cell_of_row _ _ _ _ _ _ (Qk wr (rJ P a1 p l q o t));have z:Hid (Below w.1.size w (wr.alloc (rJ P a1 p l q o t)).drew):=Z;clear C y W E Z;go_upto_region 5 with fail
   go_region
   have j:Hid (dA x b S 0=if P.s=x then(if P.d=b then(n:Int)else -1)else dA x b (S.drop (i+1)) (if P.d=b then(n:Int)+1 else n)):=by rw[Hid,v.o,K.o];rfl
   clear c0 g0 g1 h0 e0 e1 e2 e3 e4 e5 e6 e7 e8 e9 a2 v K;generalize (wr.alloc (rJ P a1 p l q o t)).drew=a4 at*
   by_cases d:P.s=x
   ·have t1:(P.s.toList==x.toList)=true:=by rw[uG,decide_eq_true d]
    by_cases c:P.d=b
    ·have G:(P.d==b)=true:=by simp[c]
     have f:Hid (dA x b S 0=(n:Int)):=by rw[Hid,j.o,if_pos d,if_pos c]
     clear d c j;go_wp2;go_ret;rw[f.o];exact⟨rfl,z.o⟩
    ·have G:(P.d==b)=false:=by simp[c]
     have f:Hid (dA x b S 0= -1):=by rw[Hid,j.o,if_pos d,if_neg c]
     clear d c j;go_wp2;go_ret;rw[f.o];exact⟨rfl,z.o⟩
   ·have t1:(P.s.toList==x.toList)=false:=by rw[uG,decide_eq_false d]
    by_cases c:P.d=b
    ·have G:(P.d==b)=true:=by simp[c]
     have f:Hid (dA x b S 0=dA x b (S.drop (i+1)) ((n:Int)+1)):=by rw[Hid,j.o,if_neg d,if_pos c]
     clear d c j;go_wp2;go_roundg m2
     case rel=>exact⟨i+1,n+1,Od,Od,z.o,Oa,Oa,by rw[f.o];simp⟩
     case measure=>omega
    ·have G:(P.d==b)=false:=by simp[c]
     have f:Hid (dA x b S 0=dA x b (S.drop (i+1)) (n:Int)):=by rw[Hid,j.o,if_neg d,if_neg c]
     clear d c j;go_wp2;go_roundg m2
     case rel=>exact⟨i+1,n,rfl,Od,z.o,Oa,Oa,f.o⟩
     case measure=>omega
  ·have t0:decide ((i:Int) < (I.length:Int))=false:=by simp;omega
   have h9:Hid (dA x b S 0= -1):=by
    rw[Hid,v.o,List.drop_eq_nil_of_le (Oi hI.len)];rfl
   clear v;go_wp2;go_ret;rw[h9.o];exact⟨rfl,u⟩
end
section
variable {H X U:Nat} {L:List NQ} {I A F:List Int} {m:Int} {s:Ns} {Y vI D M B R:Value} {V:List V3} {w w1 w2:World}
theorem gZ.a1(h:gZ H X U L I A F m s Y vI D M B R V w){k p:Int}{g J:Nat}(l:w1.os=w.os/\w1.tape=w.tape/\w1.output=w.output/\w.1.size<=w1.1.size)(C:∀ k,k < w.1.size->w1.1[k]?=w.1[k]?)(K:w2.ownsRow H 55 3 (Qe g (s.d.length+1) J) (s.d.length+1) (dK s.d++[Qc k,Qc p,.bool false]))(d:w1.grownBy w2 B.ownBlock)(y:B.ownBlock=some g\/g=w1.1.size):
 gZ H X U L I A F m (s.f k p) Y vI D M (Qe g (s.d.length+1) J) R V (w2.setCell ⟨U,5,none⟩ (Qe g (s.d.length+1) J))/\Nx X U Y B R (Qe g (s.d.length+1) J) R w (w2.setCell ⟨U,5,none⟩ (Qe g (s.d.length+1) J)):=by
 have x:U < w.1.size:=(Oo h.prog);have cP:=h.size;have G:=d.size;have old:∀ j,j < w.1.size->B.ownBlock≠some j->w2.1[j]?=w.1[j]?:=fun j b h0=>(d.block j Oa Qg).t Qh
 have E:g≠U:=by
  rcases y with e|e
  ·exact fun z=>cV h.d h.prog Ob Qh
  ·omega
 have off:∀ {j:Nat} {c:Array Value} {Z:TypeId},w.1[j]?=some (.cells c Z (0,0))->Z≠55->j≠U->(w2.setCell ⟨U,5,none⟩ (Qe g (s.d.length+1) J)).1[j]?=w.1[j]?:=fun b h0 i=>(Om i).t (old _ Qg (cV h.d b Qg))
 have f:∀ {o q:Nat} {e:TypeId} {v:Value} {t:List Value},w.ownsRow H e q v o t->e≠55->e≠76->(w2.setCell ⟨U,5,none⟩ (Qe g (s.d.length+1) J)).ownsRow H e q v o t:=fun n u i=>aR n (fun j b=>by
  obtain⟨⟨c,a⟩,_⟩:=aW n b;exact off a u (bR a h.prog i))
 refine⟨⟨(off h.nm Ob (bR h.nm h.prog Ob)).t h.nm,aI _ ((old U x (cV h.d h.prog Ob)).t h.prog),f h.nodes Ob Ob,f h.its Ob Ob,f h.arrs Ob Ob,f h.fns Ob Ob,?_,f h.b Ob Ob,h.c.move (fun j b=>?_),by grind[World.setCell]⟩,⟨d.os.t l.1,d.tape.t l.2.1,d.output.t Qh,by grind[World.setCell],(by grind[Below.heap_setCell]),fun j b=>?_,Qg⟩⟩
 ·show(w2.setCell _ _).ownsRow H 55 3 _ (s.d++[(k,p)]).length (dK (s.d++[(k,p)]))
  grind[Value.ownBlock,wH,List.length_append,aR,Below.heap_setCell]
 ·obtain⟨⟨c,a⟩,_⟩:=h.c.typ b;rcases a with a|a
  ·exact off a Ob (bR a h.prog Ob)
  ·exact off a Ob (bR a h.prog Ob)
 grind[Value.ownBlock]
theorem aC6(k p:Int)(W:s.d.length<=1000000)(h:gZ H X U L I A F m s Y vI D M B R V w):Calls prog 172 #[Qd X,Qc k,Qc p] w fun K j=>K= .returned (.tuple #[])/\∃ i,gZ H X U L I A F m (s.f k p) Y vI D M i R V j/\Nx X U Y B R i R w j:=by
 obtain⟨i0,z,y,x,v⟩:=info_parts infoSI;obtain⟨ao,a,rfl,_⟩:=bP h.d;obtain⟨⟨c0,_⟩,_,_,_,_,_,n,d⟩:=h.cells;have q:=d 5;have f:X < w.1.size:=(Oo h.nm);have b:U < w.1.size:=(Oo h.prog);have P:=h.size;have J:=h.d;have c:some U≠(Value.slice ao s.d.length a).ownBlock:=fun e=>cV h.d h.prog Ob e.symm;have l:some X≠(Value.slice ao s.d.length a).ownBlock:=fun e=>cV h.d h.nm Ob e.symm;have E:Hid (gZ H X U L I A F m s Y vI D M (.slice ao s.d.length a) R V w):=h;clear h d;go_enter func172,ntmps172
 go_wp2_with fail
 go_region_law
  ((refine step_append_lies _ (by rfl) _ _ _ (by rfl) H 55 i0 _ 3 24 underlying52 z y x v rfl Oa (.slice ao s.d.length a) s.d.length (dK s.d) (by rfl) ((J.alloc _).drew)
     ⟨w.1.size,0,none⟩ 1 1 [Qc k,Qc p,.bool false] (by rfl) (by rfl) (World.news_of_block (cs:=#[Qc k,Qc p,.bool false]) (t:=55) (fr:=(0,0)) (Qk w _)) (by simp[Value.oneCell'])
     Oa (by unfold maxLen;omega) Oa (by simp;omega) (w.1.size+1) Od ?_;intro g O w1 u h0 C Z;have q1:=(h0.cell_far ⟨U,5,none⟩ (gK b) c).t (lT b n);have q2:=(h0.frozen_far ⟨U,5,none⟩ (gK b) c).t (rO b q);have q3:=(h0.cell_far ⟨X,0,none⟩ (gK f) l).t (lT f c0)))
 all_goals obtain⟨f1,o⟩:=E.o.a1 (w1:=(w.alloc (Qf #[Qc k,Qc p,.bool false] 55)).drew) ⟨rfl,rfl,rfl,by simp[World.drew]⟩ (fun _ G=>On G) u h0 (C.imp id (fun e=>e.t (by simp[World.drew])))
 all_goals go_wp2
 all_goals go_end0
 all_goals exact⟨rfl,_,f1,o⟩
end
section
variable {H X U:Nat} {L:List NQ} {I A F:List Int} {m:Int} {s:Ns} {Y vI D M B R:Value} {V:List V3} {w:World} {FQ:List (Nat × Nat)}
structure aAN(L:List NQ)(F:List Int)(FQ:List (Nat × Nat)):Prop where
 len:FQ.length=F.length
 at_:∀ (i:Nat) (x:Int),F[i]?=some x->∃ n,jM L x n/\FQ[i]?=some (n.g.length,n.e.length)
structure yA(X U:Nat)(Y B R:Value)(k:Nat):Prop where
 n:k≠X
 g:k≠U
 l:Y.ownBlock≠some k
 s:B.ownBlock≠some k
 v:R.ownBlock≠some k
theorem gZ.fresh(h:gZ H X U L I A F m s Y vI D M B R V w){k:Nat}(a:w.1.size<=k):yA X U Y B R k:=
 ⟨fun e=>Oi ((Oo h.nm)),fun e=>Oi ((Oo h.prog)),fun e=>Oi (fC h.nodes e),fun e=>Oi (fC h.d e),fun e=>Oi (fC h.b e)⟩
theorem yA.nx{w':World}{c d:Value}{k:Nat}(a:yA X U Y B R k)(b:Nx X U Y B R c d w w')(f:k < w.1.size):yA X U Y c d k/\w'.1[k]?=w.1[k]?:=
 ⟨⟨a.n,a.g,a.l,fun e=>(b.rs k e).elim a.s Oa,fun e=>(b.rv k e).elim a.v Oa⟩,b.keep k f a.n a.g a.l a.s a.v⟩
theorem aVK(x:NQ)(a1:Option Addr)(c1:Nat)(f:Option Addr)(c2:Nat)(j:Option Addr)(c3:Nat)(C:Int)(hF:aAN L F FQ)(h7:C < F.length)(_:L.length<=200000)(hS:s.d.length<=1000000)(_:F.length<=200000)(h:gZ H X U L I A F m s Y vI D M B R V w):
 Calls prog 173 #[Qd X,NdA x (.slice a1 x.c.length c1,.slice f x.g.length c2,.slice j x.e.length c3),Qc C] w fun e w'=>e= .returned (.tuple #[])/\∃ J,gZ H X U L I A F m (s.call FQ C x.c.length x.at_) Y vI D M J R V w'/\Nx X U Y B R J R w w':=by
 have t:=h.alloc (rJ x a1 c1 f c2 j c3);have y1:=(Nx.refl X U Y B R w).alloc (rJ x a1 c1 f c2 j c3);have q1:(w.alloc (rJ x a1 c1 f c2 j c3)).1[w.1.size]?=some (Qf #[Qc x.d,Qc x.at_,.string x.s,Qc x.n,Qc x.mid,.slice a1 x.c.length c1,.slice f x.g.length c2,.slice j x.e.length c3,Qc x.b,Qc x.ref,Qc x.f] 73):=Qk w _;unfold NdA
 by_cases y:C < 0
 ·have n:Hid (s.call FQ C x.c.length x.at_=s):=if_pos y;have t0:decide (C < 0)=true:=by simp[y]
  have hh:Hid (gZ H X U L I A F m s Y vI D M B R V (w.alloc (rJ x a1 c1 f c2 j c3))/\Nx X U Y B R B R w (w.alloc (rJ x a1 c1 f c2 j c3))):=⟨t,y1⟩;clear y h t y1 q1;go_enter func173,ntmps173
  go_wp2;refine bodyPost_ret (results_none rfl _ _ _) rfl ?_;rw[n.o];exact⟨rfl,B,hh.o⟩
 ·have t0:decide (C < 0)=false:=by simp[y]
  obtain⟨i,rfl⟩:=Int.eq_ofNat_of_zero_le (Int.not_lt.1 y);have hi:i < F.length:=Oa
  obtain⟨a2,hy⟩:∃ a2,F[i]?=some a2:=⟨F[i],by simp[hi]⟩;obtain⟨P,Z,h8⟩:=hF.at_ i a2 hy;have b3:=Z.lt;obtain⟨k,rfl⟩:=Int.eq_ofNat_of_zero_le Z.1
  have n:Hid (s.call FQ (i:Int) x.c.length x.at_=(if 0 < P.e.length then(if P.g.length≠x.c.length then s.e0 5 x.at_ else s).f 4 x.at_ else(if P.g.length≠x.c.length then s.e0 5 x.at_ else s))):=by
   unfold Hid Ns.call;rw[if_neg y]
   have:FQ.getD (i:Int).toNat (0,0)=(P.g.length,P.e.length):=by
    show FQ.getD i (0,0)=_;simp[List.getD,h8]
   rw[this]
  have cP:(w.alloc (rJ x a1 c1 f c2 j c3)).1.size=w.1.size+1:=Od
  have o1:=h.fresh Ol;clear y h h8 h7;go_enter func173,ntmps173
  go_upto_region 2 with fail
  generalize (w.alloc (rJ x a1 c1 f c2 j c3))=b at*;obtain⟨⟨p0,_⟩,g0,_,_,g3,_⟩:=t.cells;obtain⟨g,a5,hv,h0⟩:=dQ t.fns hy;obtain⟨gr,a3,b1,q,l,o,c,d,h9,_,k0,⟨e0,e1,e2,e3,e4,e5,e6,e7,e8,e9,a6⟩,_,b2⟩:=t.p0 (k:=k) (a:=P) (by have:=Z.2;simpa using this);have hb:0<=(i:Int)/\(i:Int) < (F.length:Int):=Oa
  have a7:0<=(k:Int)/\(k:Int) < (L.length:Int):=Oa
  subst hv h9;have b4:X < b.1.size:=Qp _ _ p0;have a8:U < b.1.size:=Qp _ _ g0;have a9:g < b.1.size:=Qp _ _ h0;have h2:=(t.alloc (rJ P b1 q l o c d)).drewN 1;have y2:=(y1.alloc (rJ P b1 q l o c d)).drewN 1;have q2:(b.alloc (rJ P b1 q l o c d)).drew.1[w.1.size]?=_:=(On Oa).t q1;have r2:(b.alloc (rJ P b1 q l o c d)).drew.1[b.1.size]?=some (Qf #[Qc P.d,Qc P.at_,.string P.s,Qc P.n,Qc P.mid,.slice b1 P.c.length q,.slice l P.g.length o,.slice c P.e.length d,Qc P.b,Qc P.ref,Qc P.f] 73):=Qk _ _;have u:Hid (gZ H X U L I A F m s (Qe gr L.length a3) vI D (Qe g F.length a5) B R V (b.alloc (rJ P b1 q l o c d)).drew/\Nx X U (Qe gr L.length a3) B R B R w (b.alloc (rJ P b1 q l o c d)).drew):=⟨h2,y2⟩;have o2:=t.fresh Ol;clear hy Z hF k0 t y1 h2 y2 q1 cP;go_region
  clear p0 g0 g3 h0 e0 e1 e2 e3 e4 e5 e6 e7 e8 e9 a6;generalize (b.alloc (rJ P b1 q l o c d)).drew=G at*;have l1:G.cell? ⟨w.1.size,1,none⟩=some (Qc x.at_):=cell_of_row _ _ _ _ _ _ q2;have l5:G.cell? ⟨w.1.size,5,none⟩=some (.slice a1 x.c.length c1):=cell_of_row _ _ _ _ _ _ q2;have r6:G.cell? ⟨b.1.size,6,none⟩=some (.slice l P.g.length o):=cell_of_row _ _ _ _ _ _ r2;have r7:G.cell? ⟨b.1.size,7,none⟩=some (.slice c P.e.length d):=cell_of_row _ _ _ _ _ _ r2;have E:Hid (G.1[w.1.size]?=some (Qf #[Qc x.d,Qc x.at_,.string x.s,Qc x.n,Qc x.mid,.slice a1 x.c.length c1,.slice f x.g.length c2,.slice j x.e.length c3,Qc x.b,Qc x.ref,Qc x.f] 73)/\G.1[b.1.size]?=some (Qf #[Qc P.d,Qc P.at_,.string P.s,Qc P.n,Qc P.mid,.slice b1 P.c.length q,.slice l P.g.length o,.slice c P.e.length d,Qc P.b,Qc P.ref,Qc P.f] 73)):=⟨q2,r2⟩;clear q2 r2;have HS:Hid (s.d.length<=1000000):=hS;have wS:∀ e a4,(s.e0 e a4).d=s.d:=fun e a4=>by unfold Ns.e0;split<;>rfl
  by_cases p:P.g.length=x.c.length
  ·have t1:((P.g.length:Int)!=(x.c.length:Int))=false:=by simp[p]
   by_cases O:0 < P.e.length
   ·have t2:decide ((0:Int) < (P.e.length:Int))=true:=by simp;omega
    have z:Hid (s.call FQ (i:Int) x.c.length x.at_=s.f 4 x.at_):=by rw[Hid,n.o,if_pos O,if_neg (by simp[p])]
    clear n p;go_wp2_with fail
    refine(aC6 4 x.at_ HS.o u.o.1).mono ?_;rintro e W ⟨rfl,J,K,v⟩;clear l1 l5 r6 r7;go_wp2;go_end0
    rw[z.o];exact⟨rfl,J,K,u.o.2.t v⟩
   ·have t2:decide ((0:Int) < (P.e.length:Int))=false:=decide_eq_false Oa;have z:Hid (s.call FQ (i:Int) x.c.length x.at_=s):=by rw[Hid,n.o,if_neg O,if_neg (by simp[p])]
    clear n p;go_wp2;go_end0
    rw[z.o];exact⟨rfl,B,u.o.1,u.o.2⟩
  ·have t1:((P.g.length:Int)!=(x.c.length:Int))=true:=by simp;omega
   by_cases O:0 < P.e.length
   ·have t2:decide ((0:Int) < (P.e.length:Int))=true:=by simp;omega
    have z:Hid (s.call FQ (i:Int) x.c.length x.at_=(s.e0 5 x.at_).f 4 x.at_):=by rw[Hid,n.o,if_pos O,if_pos p]
    clear n p;go_wp2_with fail
    refine(jW 5 x.at_ u.o.1).mono ?_;rintro e W ⟨rfl,K,v⟩;have m1:W.cell? ⟨w.1.size,1,none⟩=some (Qc x.at_):=cell_of_row _ _ _ _ _ _ ((o1.nx v (Oo E.o.1)).2.t E.o.1);have m7:W.cell? ⟨b.1.size,7,none⟩=some (.slice c P.e.length d):=cell_of_row _ _ _ _ _ _ ((o2.nx v (Oo E.o.2)).2.t E.o.2);clear l1 l5 r6 r7;go_wp2_with fail
    refine(aC6 4 x.at_ (by rw[wS];exact HS.o) K).mono ?_;rintro e w4 ⟨rfl,J,h4,y4⟩;clear m1 m7;go_wp2;go_end0
    rw[z.o];exact⟨rfl,J,h4,(u.o.2.t v).t y4⟩
   ·have t2:decide ((0:Int) < (P.e.length:Int))=false:=decide_eq_false Oa;have z:Hid (s.call FQ (i:Int) x.c.length x.at_=s.e0 5 x.at_):=by rw[Hid,n.o,if_neg O,if_pos p]
    clear n p;go_wp2_with fail
    refine(jW 5 x.at_ u.o.1).mono ?_;rintro e W ⟨rfl,K,v⟩;have m7:W.cell? ⟨b.1.size,7,none⟩=some (.slice c P.e.length d):=cell_of_row _ _ _ _ _ _ ((o2.nx v (Oo E.o.2)).2.t E.o.2);clear l1 l5 r6 r7;go_wp2;go_end0
    rw[z.o];exact⟨rfl,B,K,u.o.2.t v⟩
end
section
variable {H X U:Nat} {L:List NQ} {I A F:List Int} {m:Int} {s:Ns} {Y vI D M B R:Value} {V:List V3} {w:World}
theorem aJS:∀ (L:List NQ) (V:List V3) (i:Nat) (a:NQ) (r:Int),L[i]?=some a->L.length=V.length->mM (L.set i {a with ref:=r}) V=(mM L V).set (i*11+9) (Qc r)
 |b::L,u::V,0,a,r,h1,_=>by
  simp only[List.getElem?_cons_zero,Option.some.injEq]at h1;subst h1;rfl
 |b::L,u::V,i+1,a,r,h1,h2=>by
  show NdV b u++mM (L.set i {a with ref:=r}) V=(NdV b u++mM L V).set _ _;rw[aJS L V i a r Qi Qg];have e:(NdV b u).length=11:=rfl
  grind
 |[],_,_,_,_,h1,_=>by rfl
 |b::L,[],_,_,_,_,h2=>by simp at h2
theorem kZ.set{H:Nat}{w:World}{a b:NQ}(d:pW a b):∀ {L:List NQ} {V:List V3} {i:Nat},kZ H w L V->L[i]?=some a->kZ H w (L.set i b) V:=by
 intro L
 induction L with
 |nil=>simp
 |cons c L ih=>
  intro V i h e;cases V with
  |nil=>trivial
  |cons u V=>
   cases i with
   |zero=>
    simp only[List.getElem?_cons_zero,Option.some.injEq]at e;subst e;exact⟨⟨by rw[d.c];exact h.1.k,by rw[d.g];exact h.1.p,by rw[d.e];exact h.1.h⟩,h.2⟩
   |succ i=>exact⟨h.1,ih h.2 Qi⟩
theorem gZ.d1(h:gZ H X U L I A F m s Y vI D M B R V w){i:Nat}{a:NQ}(hi:L[i]?=some a)(r:Int){g J:Nat}(Z:Y= Qe g L.length J):
 gZ H X U (L.set i {a with ref:=r}) I A F m s Y vI D M B R V (w.setCell ⟨g,i*11+9,none⟩ (Qc r))/\Nx X U Y B R B R w (w.setCell ⟨g,i*11+9,none⟩ (Qc r))/\xZ i (i+1) L (L.set i {a with ref:=r}):=by
 have a4:=(List.getElem?_eq_some_iff.1 hi).1;have j:pW a {a with ref:=r}:=⟨rfl,rfl,rfl,rfl,rfl,rfl,rfl,rfl,rfl⟩;subst Z;have d:=h.nodes;obtain⟨x,P⟩:=d;rcases P with⟨_,d⟩|⟨g2,a2,q,h0,G,O,y,C,cP,u⟩
 ·omega
 simp only[Value.slice.injEq,Option.some.injEq,Addr.mk.injEq]at h0;obtain⟨⟨rfl,_⟩,_,rfl⟩:=h0;have off:∀ {k:Nat} {p:Array Value} {t:TypeId},w.1[k]?=some (.cells p t (0,0))->t≠73->(w.setCell ⟨g,i*11+9,none⟩ (Qc r)).1[k]?=w.1[k]?:=(by grind[Below.heap_setCell,bR])
 have b:∀ {n l:Nat} {e:TypeId} {v:Value} {o:List Value},w.ownsRow H e l v n o->e≠73->(w.setCell ⟨g,i*11+9,none⟩ (Qc r)).ownsRow H e l v n o:=fun f a5=>aR f (fun k K=>by
  obtain⟨⟨c,E⟩,_⟩:=aW f K
  grind)
 have z:kZ H (w.setCell ⟨g,i*11+9,none⟩ (Qc r)) L V:=h.c.move (fun k W=>by
  obtain⟨⟨c,E⟩,_⟩:=h.c.typ W
  grind)
 have a3:(mM L V).length=L.length*11:=x;refine⟨⟨(off h.nm Ob).t h.nm,(off h.prog Ob).t h.prog,?_,b h.its Ob,b h.arrs Ob,b h.fns Ob,b h.d Ob,b h.b Ob,kZ.set j z hi,by grind[World.setCell]⟩,⟨rfl,rfl,rfl,Od,(by grind[Value.ownBlock,Below.heap_setCell]),Qg,Qg⟩,xZ.set hi j⟩;rw[aJS L V i a r hi h.c.len,List.length_set];refine⟨Qh,.r ⟨g,J,q.setIfInBounds (i*11+9) (Qc r),rfl,G,aI _ O,y,C,Qh,?_⟩⟩;rw[Array.toList_setIfInBounds,List.take_set,u]
end
section
structure vW(E L:List NQ):Prop where
 len:L.length=E.length
 same:∀ (i:Nat) (a:NQ),E[i]?=some a->∃ b,L[i]?=some b/\pW a b
theorem vW.upd{E L J:List NQ}{lo hi:Int}(h:vW E L)(k:xZ lo hi L J):vW E J:=
 ⟨k.len.t h.len,fun i a e=>by
   obtain⟨b,f,d⟩:=h.same i a e;obtain⟨c,g,j,_⟩:=k.same i b f;exact⟨c,g,d.t j⟩⟩
theorem vW.ndq{E L:List NQ}(h:vW E L){x:Int}{a:NQ}(c:jM E x a):∃ b,jM L x b/\pW a b:=by
 obtain⟨b,e,d⟩:=h.same _ _ c.2;exact⟨b,⟨c.1,e⟩,d⟩
theorem aBX.like{E L:List NQ}{I:List Int}{S:List (ByteArray × Int)}(h:aBX E I S)(f:vW E L):aBX L I S:=
 ⟨h.len,fun i x g=>by
   obtain⟨n,c,d⟩:=h.at_ i x g;obtain⟨b,e,a⟩:=f.ndq c;exact⟨b,e,by rw[a.s,a.d];exact d⟩⟩
theorem aAN.like{E L:List NQ}{F:List Int}{FQ:List (Nat × Nat)}(h:aAN E F FQ)(f:vW E L):aAN L F FQ:=
 ⟨h.len,fun i x g=>by
   obtain⟨n,c,d⟩:=h.at_ i x g;obtain⟨b,e,a⟩:=f.ndq c;exact⟨b,e,by rw[a.g,a.e];exact d⟩⟩
def aH4:ByteArray:=⟨#[47]⟩
def aKQ:ByteArray:=⟨#[37]⟩
def kG(S:List (ByteArray × Int))(FQ:List (Nat × Nat))(n:NQ)(s:Ns):Ns × Int:=
 if n.d=4\/n.d=13 then(s,s.var n.s)
 else if n.d=5\/n.d=14 then(s.f (if n.d=14 then 2 else 1) n.at_,dA n.s 1 S 0)
 else if n.d=6 then(s.call FQ (dA n.s 2 S 0) n.c.length n.at_,dA n.s 2 S 0)
 else if n.d=8/\(n.s=aH4\/n.s=aKQ)then(s.f 3 n.at_,0)
 else(s,0)
def nY(S:List (ByteArray × Int))(FQ:List (Nat × Nat))(n:NQ)(s:Ns):Ns:=if(kG S FQ n s).2 < 0 then(kG S FQ n s).1.e0 4 n.at_ else(kG S FQ n s).1
theorem cY(s:Ns)(e p:Int):(s.e0 e p).d=s.d/\(s.e0 e p).b=s.b:=by grind[Ns.e0]
theorem aDY(s:Ns)(FQ:List (Nat × Nat))(r:Int)(n:Nat)(p:Int):(s.call FQ r n p).d.length<=s.d.length+1/\(s.call FQ r n p).b=s.b:=by
 grind[Ns.call,Ns.f,cY]
theorem rH(S:List (ByteArray × Int))(FQ:List (Nat × Nat))(n:NQ)(s:Ns):(kG S FQ n s).1.d.length<=s.d.length+1/\(kG S FQ n s).1.b=s.b:=by
 grind[kG,Ns.f,aDY]
theorem mX{s:Ns}{e p:Int}(a:e≠0):(s.e0 e p).a≠0:=by
 grind[Ns.e0]
theorem aG2{s:Ns}{FQ:List (Nat × Nat)}{r:Int}{n:Nat}{p:Int}(h:(s.call FQ r n p).a=0):s.a=0/\(0<=r->(FQ.getD r.toNat (0,0)).1=n):=by
 unfold Ns.call at h;dsimp only at h
 split at h
 ·omega
 ·by_cases e:(FQ.getD r.toNat (0,0)).1≠n
  ·rw[if_pos e]at h
   split at h
   ·exact absurd h (mX Ob)
   grind[mX]
  ·rw[if_neg e]at h;have e:=Decidable.not_not.1 e
   split at h
   ·exact⟨h,Oa⟩
   omega
structure zP(g:Ns->Ns):Prop where
 a:∀ s,(g s).a=0->s.a=0
 b:∀ s,s.b.length<=(g s).b.length
theorem zP.comp{f g:Ns->Ns}(h:zP g)(k:zP f):zP (fun s=>f (g s)):=⟨fun s e=>h.a s (k.a _ e),fun s=>Qm (h.b s) (k.b _)⟩
theorem zP.same{f g:Ns->Ns}(h:zP g)(e:∀ s,f s=g s):zP f:=(funext e:f=g) ▸ h
theorem zP.id{f:Ns->Ns}(e:∀ s,f s=s):zP f:=⟨Qh,Qh⟩
theorem aSB(S:List (ByteArray × Int))(FQ:List (Nat × Nat))(n:NQ):zP (nY S FQ n):=by
 refine⟨fun s h=>?_,fun s=>?_⟩
 ·unfold nY at h
  split at h
  ·grind[mX]
  ·unfold kG at h
   split at h
   ·exact h
   split at h
   ·exact h
   split at h
   ·exact(aG2 h).1
   split at h
   ·exact h
   ·exact h
 ·have:=(rH S FQ n s).2;unfold nY
  split
  ·rw[(cY _ _ _).2,this];omega
  simp[*]
theorem aDB(x:ByteArray)(p:Int):zP (fun s=>s.letQ x p):=by
 refine⟨fun s h=>?_,fun s=>?_⟩
 ·grind[Ns.letQ,mX]
 ·unfold Ns.letQ
  split
  ·rw[(cY _ _ _).2];omega
  split
  ·rw[(cY _ _ _).2];omega
  ·simp
def OkR(E:List NQ)(A F:List Int)(Z:Nat)(b:NQ):Prop:=
 ((b.d=4\/b.d=12\/b.d=13)->0<=b.ref/\b.ref < Z)/\((b.d=5\/b.d=14)->0<=b.ref/\b.ref < A.length)/\(b.d=6->∃ x n,0<=b.ref/\F[b.ref.toNat]?=some x/\jM E x n/\n.g.length=b.c.length)
def Gd(E:List NQ)(A F:List Int)(K:Int->Prop)(s:Ns)(L:List NQ):Prop:=s.a=0->∀ i,K i->∃ b,jM L i b/\OkR E A F s.b.length b
section
variable {E L J:List NQ} {A F:List Int} {K G:Int->Prop} {s:Ns} {g:Ns->Ns} {lo hi:Int}
theorem OkR.mono{Z a:Nat}{b:NQ}(h:OkR E A F Z b)(c:Z<=a):OkR E A F a b:=⟨fun e=>⟨(h.1 e).1,Oi ((h.1 e).2)⟩,h.2⟩
theorem xZ.off(u:xZ lo hi L J){j:Int}{b:NQ}(h:jM L j b)(d:j < lo\/hi<=j):jM J j b:=by
 obtain⟨c,a,_,e⟩:=u.same _ _ h.2;rcases e with rfl|e
 ·exact⟨h.1,a⟩
 ·have:=h.1;omega
theorem Gd.step(h:Gd E A F K s L)(u:xZ lo hi L J)(f:∀ j,K j->j < lo\/hi<=j)(t:zP g)(k:Gd E A F G (g s) J):Gd E A F (fun j=>K j\/G j) (g s) J:=fun c j a=>a.elim (fun a=>by
 obtain⟨b,d,e⟩:=h (t.a s c) j a;exact⟨b,u.off d Qh,e.mono (t.b s)⟩) (k c j)
theorem Gd.sub(h:Gd E A F K s L)(c:∀ j,G j->K j):Gd E A F G s L:=fun a j b=>h a j Qh
theorem aMB(x:ByteArray):∀ (l:List ByteArray) (k:Int),0<=k->aAR x l k < k+l.length
 |[],k,h=>by grind[aAR]
 |y::r,k,h=>by
  have:=aMB x r (k+1) Oa
  grind[aAR]
theorem aGN{S:List (ByteArray × Int)}{FQ:List (Nat × Nat)}(u:∀ x,dA x 1 S 0 < A.length)(n:aAN E F FQ)(l:∀ x,dA x 2 S 0 < F.length){b:NQ}{q s2:Ns}{r:Int}(a:kG S FQ b s=(q,r))(t:b.d≠12)(c:nY S FQ b s=s2){k:Nat}(o:L[k]?=some b):
 Gd E A F (fun j=>j=(k:Int)) s2 (L.set k {b with ref:=r}):=by
 rintro p j rfl;have h:=(List.getElem?_eq_some_iff.1 o).1;refine⟨{b with ref:=r},⟨Oa,by simp[h]⟩,?_⟩;have d:=(rH S FQ b s).2;unfold nY at c;rw[a]at c d;dsimp only at c d
 by_cases h0:r < 0
 ·grind[mX]
 rw[if_neg h0]at c;subst c;rw[d];unfold kG at a;unfold OkR;dsimp only
 split at a
 ·rename_i h4;cases a;exact⟨fun _=>⟨Oa,by have:=aMB b.s s.b 0 Oa;unfold Ns.var;omega⟩,Oa,Oa⟩
 split at a
 ·grind
 split at a
 ·rename_i h4 h5 h6;cases a;refine⟨Oa,Oa,fun _=>?_⟩;have e:=l b.s;obtain⟨i,hi⟩:=Int.eq_ofNat_of_zero_le (Int.not_lt.1 h0);have f:=(aG2 p).2 Oa;rw[hi]at f e ⊢;have e:i < F.length:=Oa
  obtain⟨z,v,y⟩:=n.at_ i F[i] Od
  grind
 omega
theorem aYB{b:NQ}{k:Nat}{x:ByteArray}{p:Int}(h:Gd E A F K s L)(o:∀ j,K j->j < k)(d:L[k]?=some b)(n:b.d=12):Gd E A F (fun j=>j=(k:Int)\/K j) (s.letQ x p) (L.set k {b with ref:=(s.b.length:Int)}):=by
 intro i j a;have h0:=(List.getElem?_eq_some_iff.1 d).1;have l:xZ k (k+1) L (L.set k {b with ref:=(s.b.length:Int)}):=xZ.set d ⟨rfl,rfl,rfl,rfl,rfl,rfl,rfl,rfl,rfl⟩;rcases a with rfl|a
 ·refine⟨{b with ref:=(s.b.length:Int)},⟨Oa,by simp[h0]⟩,?_⟩
  grind[Ns.letQ,OkR,mX,List.length_append,List.length_cons,List.length_nil]
 ·obtain⟨c,e,f⟩:=h ((aDB x p).a s i) j a;exact⟨c,l.off e Qh,f.mono ((aDB x p).b s)⟩
end
section
variable (H X U:Nat) (I A F:List Int) (m:Int) (Y vI D M:Value) (V:List V3) (E:List NQ)
def kY(x:Int)(g:Ns->Ns)(lo hi:Int)(K:Int->Prop):Prop:=
 (zP g/\∀ j,K j->lo<=j/\j < hi)/\∀ (s:Ns) (L:List NQ) (B R:Value) (w:World),vW E L->s.b.length<=100000->(s.d.length:Int)+(hi - lo)<=1000000->gZ H X U L I A F m s Y vI D M B R V w->
   Calls prog 110 #[Qd X,Qc x] w fun e w'=>e= .returned (.tuple #[])/\(g s).b.length<=100000/\((g s).d.length:Int)<=s.d.length+(hi - lo)/\∃ J vS' vV',gZ H X U J I A F m (g s) Y vI D M vS' vV' V w'/\Nx X U Y B R vS' vV' w w'/\xZ lo hi L J/\Gd E A F K (g s) J
def fH:List Int->(Ns->Ns)->Int->Int->(Int->Prop)->Prop
 |[],f,lo,hi,K=>(∀ s,f s=s)/\lo<=hi/\∀ j,¬K j
 |y::ys,f,lo,hi,K=>∃ g h k G K2,kY H X U I A F m Y vI D M V E y g lo k G/\fH ys h k hi K2/\(∀ s,f s=h (g s))/\lo<=k/\∀ j,K j->G j\/K2 j
end
variable {H X U:Nat} {I A F:List Int} {m:Int} {Y vI D M:Value} {V:List V3} {E:List NQ} {S:List (ByteArray × Int)} {FQ:List (Nat × Nat)} {K:Int->Prop}
theorem fH.le:∀ {a:List Int} {f:Ns->Ns} {lo hi:Int} {K:Int->Prop},fH H X U I A F m Y vI D M V E a f lo hi K->lo<=hi
 |[],_,_,_,_,h=>h.2.1
 |_::_,_,_,_,_,⟨_,_,_,_,_,_,h2,_,h4,_⟩=>by have:=fH.le h2;omega
theorem fH.tame:∀ {c:List Int} {f:Ns->Ns} {lo hi:Int} {K:Int->Prop},fH H X U I A F m Y vI D M V E c f lo hi K->zP f/\∀ j,K j->lo<=j/\j < hi
 |[],_,_,_,_,h=>⟨zP.id h.1,fun j a=>absurd a (h.2.2 j)⟩
 |_::_,_,_,_,_,⟨_,_,_,_,_,h1,h2,h3,h4,h5⟩=>by
  obtain⟨b,d⟩:=fH.tame h2;have:=fH.le h2;refine⟨(h1.1.1.comp b).same h3,fun j a=>?_⟩;rcases h5 j a with e|e
  ·have:=h1.1.2 j e;omega
  grind
theorem gZ.ref5{s2:Ns}{L:List NQ}{k gr c:Nat}{b:NQ}{r:Int}{B f d R:Value}{w W3 a:World}{o:Obj}{lo:Int}(i:Hid (Gd E A F (fun j=>j=(k:Int)) s2 (L.set k {b with ref:=r})))(h:gZ H X U L I A F m s2 (Qe gr L.length c) vI D M d R V a)(p:L[k]?=some b)(u:Nx X U (Qe gr L.length c) B R f R w W3)(v:Nx X U (Qe gr L.length c) f R d R W3 a)(n:vW E L)(t:yA X U (Qe gr L.length c) d R w.1.size)(q:a.1[w.1.size]?=some o)(h0:lo<=k):
 (a.setCell ⟨gr,k*11+9,none⟩ (Qc r)).1[w.1.size]?=some o/\Hid (gZ H X U (L.set k {b with ref:=r}) I A F m s2 (Qe gr L.length c) vI D M d R V (a.setCell ⟨gr,k*11+9,none⟩ (Qc r))/\Nx X U (Qe gr L.length c) B R d R w (a.setCell ⟨gr,k*11+9,none⟩ (Qc r))/\xZ lo (k+1) L (L.set k {b with ref:=r})/\vW E (L.set k {b with ref:=r})/\Gd E A F (fun j=>j=(k:Int)) s2 (L.set k {b with ref:=r})):=by
 obtain⟨l,x,u5⟩:=h.d1 p r rfl;exact⟨(Below.heap_setCell a ⟨gr,k*11+9,none⟩ (Qc r) w.1.size (fun e=>t.l (by rw[e];rfl))).t q,l,(u.t v).t x,u5.wide h0 Oa,n.upd u5,i.o⟩
theorem aY7(hI:aBX E I S)(hF:aAN E F FQ)(j2:∀ x,dA x 1 S 0 < A.length)(z8:∀ x,dA x 2 S 0 < F.length)(hz:I.length<=100000)(hK:F.length<=100000)(hZ:E.length<=200000){k:Nat}{P:NQ}(g7:E[k]?=some P)(j8:P.d≠12)(m0:P.c.length<=100000){f:Ns->Ns}{lo:Int}(hk:fH H X U I A F m Y vI D M V E P.c f lo k K):
 kY H X U I A F m Y vI D M V E k (fun s=>f (nY S FQ P s)) lo (k+1) (fun j=>j=(k:Int)\/K j):=by
 obtain⟨d9,m6⟩:=hk.tame;have j6:=hk.le;refine⟨⟨(aSB S FQ P).comp d9,fun j hj=>hj.elim (fun e=>Oa) (fun e=>by have:=m6 j e;omega)⟩,?_⟩;intro s L B R w hL hv hs h;obtain⟨b,hb,h5⟩:=hL.same k P g7;have HO:Hid (nY S FQ P s=nY S FQ b s/\b.c=P.c):=⟨by unfold nY kG;rw[h5.d,h5.s,h5.c,h5.at_],h5.c⟩;have f8:k < L.length:=(List.getElem?_eq_some_iff.1 hb).1;have j7:L.length<=200000:=by rw[hL.len];exact hZ
 have d8:=hI.like hL;have m7:=hF.like hL;have k8:Hid (b.d≠12):=by rw[Hid,h5.d];exact j8
 have Q:(b.d==12)=false:=by rw[h5.d];simp[j8]
 have o1:=h.fresh Ol;obtain⟨⟨p0,_⟩,g0,_⟩:=h.cells;obtain⟨gr,v,a1,k1,a2,k2,a3,k3,j5,d5,_,⟨e0,e1,e2,e3,e4,e5,e6,e7,e8,e9,b8⟩,_,f6⟩:=h.p0 hb;subst j5;have f4:0<=(k:Int)/\(k:Int) < (L.length:Int):=Oa
 have Z:=h.alloc (rJ b a1 k1 a2 k2 a3 k3);have y1:=(Nx.refl X U (Qe gr L.length v) B R w).alloc (rJ b a1 k1 a2 k2 a3 k3);have y:(w.alloc (rJ b a1 k1 a2 k2 a3 k3)).1[w.1.size]?=some (Qf #[Qc b.d,Qc b.at_,.string b.s,Qc b.n,Qc b.mid,.slice a1 b.c.length k1,.slice a2 b.g.length k2,.slice a3 b.e.length k3,Qc b.b,Qc b.ref,Qc b.f] 73):=Qk w _;clear h h5 j8 g7;go_enter func110,ntmps110
 go_upto_region 1 with fail
 clear p0 g0 e0 e1 e2 e3 e4 e5 e6 e7 e8 e9 b8;generalize (w.alloc (rJ b a1 k1 a2 k2 a3 k3))=W1 at*;have l0:W1.cell? ⟨w.1.size,0,none⟩=some (Qc b.d):=cell_of_row _ _ _ _ _ _ y;have l1:W1.cell? ⟨w.1.size,1,none⟩=some (Qc b.at_):=cell_of_row _ _ _ _ _ _ y;have l2:W1.cell? ⟨w.1.size,2,none⟩=some (.string b.s):=cell_of_row _ _ _ _ _ _ y;have m2:b.c.length<=100000:=by rw[HO.o.2];exact m0
 have HV:Hid (V[k]?=some (.slice a1 b.c.length k1,.slice a2 b.g.length k2,.slice a3 b.e.length k3)):=d5;have k7:∀ (x W:Int),x≠W->(x==W)=false:=fun x W h=>by simp[h]
 clear d5
 have hg:((b.d=4\/b.d=13)\/((b.d≠4/\b.d≠13)/\(b.d=5\/b.d=14))\/b.d=6)\/((b.d=8/\(b.s=aH4\/b.s=aKQ))\/((b.d≠4/\b.d≠13/\b.d≠5/\b.d≠14/\b.d≠6)/\¬(b.d=8/\(b.s=aH4\/b.s=aKQ)))):=by
  by_cases e8:b.d=8/\(b.s=aH4\/b.s=aKQ)
  ·exact .r (.l e8)
  ·by_cases e9:b.d≠4/\b.d≠13/\b.d≠5/\b.d≠14/\b.d≠6
   ·exact .r (.r ⟨e9,e8⟩)
   ·omega
 rcases hg with hg|hg
 case' inl=>
  rcases hg with d|⟨k4,d⟩|d
  case' inl=>
   obtain⟨r,q⟩:∃ r,r=s.var b.s:=⟨_,rfl⟩;obtain⟨a,k0⟩:∃ a,Hid (a=s):=⟨_,rfl⟩;have t:Hid (kG S FQ b s=(a,r)):=by unfold Hid kG;rw[if_pos d,q,k0.o]
   have hc:(b.d==4)=true\/((b.d==4)=false/\(b.d==13)=true):=by
    by_cases e:b.d=4
    ·exact .l (by simp[e])
    ·exact .r ⟨by simp[e],by simp[d.resolve_left e]⟩
   clear d;rcases hc with t4|⟨t4,a9⟩
   all_goals
    go_wp2_with fail
    refine(yI b.s hv Z).mono ?_;rintro e W3 ⟨rfl,rfl⟩;rw[<-q];obtain⟨u,h9⟩:∃ x,Hid (x=B):=⟨_,rfl⟩;have z:gZ H X U L I A F m a (Qe gr L.length v) vI D M u R V W1:=by rw[k0.o,h9.o];exact Z
    have y3:Nx X U (Qe gr L.length v) B R u R w W1:=by rw[h9.o];exact y1
    have o3:yA X U (Qe gr L.length v) u R w.1.size:=by rw[h9.o];exact o1
    have o:=y;clear Z y1 o1 y l0 l1 l2 q;generalize W1=W3 at*
  case' inr.inl=>
   obtain⟨r,q⟩:∃ r,r=dA b.s 1 S 0:=⟨_,rfl⟩;obtain⟨kd,j1⟩:∃ kd:Int,kd=(if b.d=14 then 2 else 1):=⟨_,rfl⟩;obtain⟨a,k0⟩:∃ a,Hid (a=s.f kd b.at_):=⟨_,rfl⟩;have t:Hid (kG S FQ b s=(a,r)):=by unfold Hid kG;rw[Oh,if_pos d,q,k0.o,j1]
   have t4:=k7 _ _ k4.1;have a9:=k7 _ _ k4.2
   have hc:((b.d==5)=true/\(b.d==14)=false/\kd=1)\/((b.d==5)=false/\(b.d==14)=true/\kd=2):=by
    rcases d with e|e
    ·exact .l ⟨by simp[e],by simp[e],by rw[j1,Oh]⟩
    ·exact .r ⟨by simp[e],by simp[e],by rw[j1,if_pos e]⟩
   have HK:Hid (r=dA b.s 1 S 0):=q;clear d k4 j1;rcases hc with⟨t5,b2,rfl⟩|⟨t5,b2,rfl⟩
   all_goals
    go_wp2_with fail
    refine(aL6 b.s 1 d8 hz j7 Z).mono ?_;rintro e C ⟨rfl,p⟩;rw[<-q];have h2:=Z.same p.block p.size;have y2:=y1.t ⟨p.os,p.tape,p.output,p.size,fun k hk _ _ _ _ _=>p.block k hk,fun _ h=> .l h,fun _ h=> .l h⟩;have n:=(p.block _ (Oo y)).t y;clear l0 l1 l2 Z y1 y p q;have l0:C.cell? ⟨w.1.size,0,none⟩=some (Qc b.d):=cell_of_row _ _ _ _ _ _ n;have l1:C.cell? ⟨w.1.size,1,none⟩=some (Qc b.at_):=cell_of_row _ _ _ _ _ _ n;go_wp2_with fail
    refine(aC6 _ b.at_ Oa h2).mono ?_;rintro e W3 ⟨rfl,u,z,z3⟩;rw[<-k0.o]at z;have y3:=y2.t z3;obtain⟨o3,o⟩:=o1.nx z3 (Oo n);have o:=o.t n;clear l0 l1 h2 y2 z3 n o1
  case' inr.inr=>
   obtain⟨r,q⟩:∃ r,r=dA b.s 2 S 0:=⟨_,rfl⟩;obtain⟨a,k0⟩:∃ a,Hid (a=s.call FQ r b.c.length b.at_):=⟨_,rfl⟩;have t:Hid (kG S FQ b s=(a,r)):=by unfold Hid kG;rw[Oh,Oh,if_pos d,q,k0.o,q]
   have g4:r < F.length:=by rw[q];exact z8 b.s
   have t4:(b.d==4)=false:=by simp[d]
   have a9:(b.d==13)=false:=by simp[d]
   have t5:(b.d==5)=false:=by simp[d]
   have b2:(b.d==14)=false:=by simp[d]
   have t6:(b.d==6)=true:=by simp[d]
   clear d;go_wp2_with fail
   refine(aL6 b.s 2 d8 hz j7 Z).mono ?_;rintro e C ⟨rfl,p⟩;rw[<-q];have h2:=Z.same p.block p.size;have y2:=y1.t ⟨p.os,p.tape,p.output,p.size,fun k hk _ _ _ _ _=>p.block k hk,fun _ h=> .l h,fun _ h=> .l h⟩;have n:=(p.block _ (Oo y)).t y;clear l0 l1 l2 Z y1 y p q;have l0:C.cell? ⟨w.1.size,0,none⟩=some (Qc b.d):=cell_of_row _ _ _ _ _ _ n;have l1:C.cell? ⟨w.1.size,1,none⟩=some (Qc b.at_):=cell_of_row _ _ _ _ _ _ n;have l2:C.cell? ⟨w.1.size,2,none⟩=some (.string b.s):=cell_of_row _ _ _ _ _ _ n;have l3:C.cell? ⟨w.1.size,3,none⟩=some (Qc b.n):=cell_of_row _ _ _ _ _ _ n;have l4:C.cell? ⟨w.1.size,4,none⟩=some (Qc b.mid):=cell_of_row _ _ _ _ _ _ n;have l5:C.cell? ⟨w.1.size,5,none⟩=some (.slice a1 b.c.length k1):=cell_of_row _ _ _ _ _ _ n;have l6:C.cell? ⟨w.1.size,6,none⟩=some (.slice a2 b.g.length k2):=cell_of_row _ _ _ _ _ _ n;have l7:C.cell? ⟨w.1.size,7,none⟩=some (.slice a3 b.e.length k3):=cell_of_row _ _ _ _ _ _ n;have l8:C.cell? ⟨w.1.size,8,none⟩=some (Qc b.b):=cell_of_row _ _ _ _ _ _ n;have l9:C.cell? ⟨w.1.size,9,none⟩=some (Qc b.ref):=cell_of_row _ _ _ _ _ _ n;have b9:C.cell? ⟨w.1.size,10,none⟩=some (Qc b.f):=cell_of_row _ _ _ _ _ _ n;go_wp2_with fail
   refine(aVK b a1 k1 a2 k2 a3 k3 r m7 g4 j7 Oa Oa h2).mono ?_;rintro e W3 ⟨rfl,u,z,z3⟩;rw[<-k0.o]at z;have y3:=y2.t z3;obtain⟨o3,o⟩:=o1.nx z3 (Oo n);have o:=o.t n;clear l0 l1 l2 l3 l4 l5 l6 l7 l8 l9 b9 h2 y2 z3 n o1 g4
  all_goals
   have h0:=rH S FQ b s;rw[t.o]at h0;have k6:Hid (nY S FQ b s=if r < 0 then a.e0 4 b.at_ else a):=by unfold Hid nY;rw[t.o]
   have m1:W3.cell? ⟨w.1.size,1,none⟩=some (Qc b.at_):=cell_of_row _ _ _ _ _ _ o
   by_cases z0:r < 0
   case' pos=>
    have t8:decide (r < 0)=true:=by simp[z0]
    obtain⟨c,i⟩:∃ c,c=a.e0 4 b.at_:=⟨_,rfl⟩;have y0:Hid (nY S FQ b s=c):=by rw[Hid,k6.o,if_pos z0,i]
    have y5:c.d.length<=s.d.length+1:=by rw[i,(cY a 4 b.at_).1];exact h0.1
    have j0:c.b.length<=100000:=by rw[i,(cY a 4 b.at_).2,h0.2];exact hv
    have HK:Hid (Gd E A F (fun j=>j=(k:Int)) c (L.set k {b with ref:=r})):=aGN j2 hF z8 t.o k8.o y0.o hb;clear k6 h0 t;go_wp2_with fail
    refine(jW 4 b.at_ z).mono ?_;rintro e W4 ⟨rfl,h4,y4⟩;rw[<-i]at h4;obtain⟨o4,q4⟩:=o3.nx y4 (Oo o);have q4:=q4.t o;obtain⟨b3,h8⟩:∃ a5,a5=u:=⟨_,rfl⟩;rw[<-h8]at h4 y4 o4 y3;clear z o o3 m1 t8 i z0
   case' neg=>
    have t8:decide (r < 0)=false:=by simp[z0]
    obtain⟨c,i⟩:∃ c,c=a:=⟨_,rfl⟩;have y0:Hid (nY S FQ b s=c):=by rw[Hid,k6.o,if_neg z0,i]
    have y5:c.d.length<=s.d.length+1:=by rw[i];exact h0.1
    have j0:c.b.length<=100000:=by rw[i,h0.2];exact hv
    obtain⟨W4,z7⟩:∃ x,x=W3:=⟨_,rfl⟩;obtain⟨b3,h8⟩:∃ a5,a5=u:=⟨_,rfl⟩;have h4:=z;have y4:=Nx.refl X U (Qe gr L.length v) u R W3;have o4:=o3;have q4:=o;have HK:Hid (Gd E A F (fun j=>j=(k:Int)) c (L.set k {b with ref:=r})):=aGN j2 hF z8 t.o k8.o y0.o hb;clear k6 h0 z o o3 m1 z0 t;subst i z7 h8
 case' inr=>
  rcases hg with⟨k4,d⟩|⟨d,j3⟩
  case' inl=>
   obtain⟨a,k0⟩:∃ a,Hid (a=s.f 3 b.at_):=⟨_,rfl⟩;have t:Hid (kG S FQ b s=(a,0)):=by unfold Hid kG;rw[Oh,Oh,Oh,if_pos ⟨k4,d⟩,k0.o]
   have t4:(b.d==4)=false:=by simp[k4]
   have a9:(b.d==13)=false:=by simp[k4]
   have t5:(b.d==5)=false:=by simp[k4]
   have b2:(b.d==14)=false:=by simp[k4]
   have t6:(b.d==6)=false:=by simp[k4]
   have b6:(b.d==8)=true:=by simp[k4]
   have k9:∀ (W:ByteArray) (l:List UInt8),W.data.toList=l->(b.s.toList==l)=decide (b.s=W):=fun W l hl=>by
    rw[<-hl,<-Lib.toList_data,uG]
   have hc:(b.s.toList==[47])=true\/((b.s.toList==[47])=false/\(b.s.toList==[37])=true):=by
    by_cases e:b.s=aH4
    ·exact .l ((k9 aH4 [47] rfl).t (decide_eq_true e))
    ·exact .r ⟨(k9 aH4 [47] rfl).t (decide_eq_false e),(k9 aKQ [37] rfl).t (decide_eq_true (d.resolve_left e))⟩
   clear d k4 k9;rcases hc with u1|⟨u1,u2⟩
   all_goals
    go_wp2_with fail
    refine(aC6 _ b.at_ Oa Z).mono ?_;rintro e W3 ⟨rfl,u,z,z3⟩;rw[<-k0.o]at z;have y3:=y1.t z3;obtain⟨o3,o⟩:=o1.nx z3 (Oo y);have o:=o.t y;clear l0 l1 l2 Z y1 z3 y o1;have h0:=rH S FQ b s;rw[t.o]at h0
    have k6:Hid (nY S FQ b s=a):=by
     unfold Hid nY;rw[t.o];exact if_neg (Int.lt_irrefl 0)
    obtain⟨c,i⟩:∃ c,c=a:=⟨_,rfl⟩;have y0:Hid (nY S FQ b s=c):=by rw[Hid,k6.o,i]
    have y5:c.d.length<=s.d.length+1:=by rw[i];exact h0.1
    have j0:c.b.length<=100000:=by rw[i,h0.2];exact hv
    obtain⟨W4,z7⟩:∃ x,x=W3:=⟨_,rfl⟩;obtain⟨b3,h8⟩:∃ a5,a5=u:=⟨_,rfl⟩;have h4:=z;have y4:=Nx.refl X U (Qe gr L.length v) u R W3;have o4:=o3;have q4:=o;have HK:Hid (Gd E A F (fun j=>j=(k:Int)) c (L.set k {b with ref:=0})):=aGN j2 hF z8 t.o k8.o y0.o hb;clear k6 h0 z o o3 t;subst i z7 h8
  case' inr=>
   obtain⟨a,k0⟩:∃ a,Hid (a=s):=⟨_,rfl⟩;have t:Hid (kG S FQ b s=(a,0)):=by unfold Hid kG;rw[Oh,Oh,Oh,if_neg j3,k0.o]
   have t4:=k7 _ _ d.1;have a9:=k7 _ _ d.2.1;have t5:=k7 _ _ d.2.2.1;have b2:=k7 _ _ d.2.2.2.1;have t6:=k7 _ _ d.2.2.2.2
   have k9:∀ (W:ByteArray) (l:List UInt8),W.data.toList=l->(b.s.toList==l)=decide (b.s=W):=fun W l hl=>by
    rw[<-hl,<-Lib.toList_data,uG]
   have hc:(b.d==8)=false\/((b.d==8)=true/\(b.s.toList==[47])=false/\(b.s.toList==[37])=false):=by
    by_cases e:b.d=8
    ·exact .r ⟨by simp[e],(k9 aH4 [47] rfl).t (decide_eq_false (fun h=>j3 ⟨e,.l h⟩)),(k9 aKQ [37] rfl).t (decide_eq_false (fun h=>j3 ⟨e,.r h⟩))⟩
    ·exact .l (k7 _ _ e)
   obtain⟨u,h9⟩:∃ x,Hid (x=B):=⟨_,rfl⟩;have z:gZ H X U L I A F m a (Qe gr L.length v) vI D M u R V W1:=by rw[k0.o,h9.o];exact Z
   have y3:Nx X U (Qe gr L.length v) B R u R w W1:=by rw[h9.o];exact y1
   have o3:yA X U (Qe gr L.length v) u R w.1.size:=by rw[h9.o];exact o1
   have o:=y;clear d j3 k9 Z y1 o1 y k7;generalize W1=W3 at*;rcases hc with b6|⟨b6,u1,u2⟩
   all_goals
    have h0:=rH S FQ b s;rw[t.o]at h0
    have k6:Hid (nY S FQ b s=a):=by
     unfold Hid nY;rw[t.o];exact if_neg (Int.lt_irrefl 0)
    obtain⟨c,i⟩:∃ c,c=a:=⟨_,rfl⟩;have y0:Hid (nY S FQ b s=c):=by rw[Hid,k6.o,i]
    have y5:c.d.length<=s.d.length+1:=by rw[i];exact h0.1
    have j0:c.b.length<=100000:=by rw[i,h0.2];exact hv
    obtain⟨W4,z7⟩:∃ x,x=W3:=⟨_,rfl⟩;obtain⟨b3,h8⟩:∃ a5,a5=u:=⟨_,rfl⟩;have h4:=z;have y4:=Nx.refl X U (Qe gr L.length v) u R W3;have o4:=o3;have q4:=o;have HK:Hid (Gd E A F (fun j=>j=(k:Int)) c (L.set k {b with ref:=0})):=aGN j2 hF z8 t.o k8.o y0.o hb;clear k6 h0 z o o3 t;subst i z7 h8
 all_goals
  obtain⟨⟨p0,_⟩,g0,_⟩:=h4.cells;obtain⟨g9,f2,v9,j5,_,_,k5,z5⟩:=h4.node hb;cases j5;have e9:W4.cell? ⟨gr,k*11+9,none⟩=some (Qc b.ref):=k5 9 Oa;have f9:=z5 (k*11+9);obtain⟨q5,H5⟩:=h4.ref5 HK hb y3 y4 hL o4 q4 j6;have y8:fH H X U I A F m (Qe gr L.length v) vI D M V E (b.c.drop 0) f lo k K:=by rw[List.drop_zero,HO.o.2];exact hk
  clear h4 y3 y4 k5 z5 q4 HK;go_wp2_with fail
  clear p0 g0 e9 f9;go_loopg [8] (b.c.length+1) (fun c6 v8 wr=>∃ (O:Nat) (a4:Ns) (Lr:List NQ) (a6 a7:Value) (a8:Int) (fr:Ns->Ns) (Kd Kr:Int->Prop),v8= Qc O/\O+c6=b.c.length+1/\gZ H X U Lr I A F m a4 (Qe gr L.length v) vI D M a6 a7 V wr/\Nx X U (Qe gr L.length v) B R a6 a7 w wr/\xZ lo (k+1) L Lr/\vW E Lr/\wr.1[w.1.size]?=some (Qf #[Qc b.d,Qc b.at_,.string b.s,Qc b.n,Qc b.mid,.slice a1 b.c.length k1,.slice a2 b.g.length k2,.slice a3 b.e.length k3,Qc b.b,Qc b.ref,Qc b.f] 73)/\yA X U (Qe gr L.length v) a6 a7 w.1.size/\fH H X U I A F m (Qe gr L.length v) vI D M V E (b.c.drop O) fr a8 k Kr/\lo<=a8/\fr a4=f c/\(a4.d.length:Int)<=s.d.length+1+(a8 - lo)/\a4.b.length<=100000/\Hid (Gd E A F Kd a4 Lr/\(∀ j,j=(k:Int)\/K j->Kd j\/Kr j)/\∀ j,Kd j->j=(k:Int)\/j < a8))
  case atStart=>exact⟨0,c,_,_,_,lo,f,_,K,rfl,Oa,H5.o.1,H5.o.2.1,H5.o.2.2.1,H5.o.2.2.2.1,q5,o4,y8,Int.le_refl _,rfl,Oa,j0,H5.o.2.2.2.2,fun _ hj=>hj,fun _ hj=> .l hj⟩
  case round=>
   clear q5 y8 H5 o4;obtain⟨O,a4,Lr,a6,a7,a8,fr,Kd,Kr,rfl,m3,q,yr,ur,d7,qr,c7,y8,h7,d0,i1,g1,z9⟩:=hrel;have c5:wr.cell? ⟨w.1.size,5,none⟩=some (.slice a1 b.c.length k1):=cell_of_row _ _ _ _ _ _ qr
   by_cases hi:O < b.c.length
   ·obtain⟨W,hy⟩:∃ W,b.c[O]?=some W:=⟨b.c[O],by simp[hi]⟩;rw[pU hy]at y8;obtain⟨g,h',kk,G,K2,hn,z4,m5,h3,z6⟩:=y8;obtain⟨bk,d4,b5,_⟩:=ur.same k b hb;obtain⟨_,_,vk,-,j9,g5,-,-⟩:=q.node d4;have d6:=HV.o;rw[d6]at j9;cases j9;have y7:=g5.k;rw[b5.c]at y7;obtain⟨g6,b4,g3,y9⟩:=dQ y7 hy;have g2:Value.slice a1 b.c.length k1= Qe g6 b.c.length b4:=g3;have f5:0<=(O:Int)/\(O:Int) < (b.c.length:Int):=Oa
    have tl:decide ((O:Int) < (b.c.length:Int))=true:=by simp;omega
    have f7:=fH.le z4;have i3:IntKind.i64.wrap ((O:Int)+1)=(O:Int)+1:=IntWalk.i64_in _ (Oi m2);obtain⟨n2,rfl⟩:=Oj gk;have HN:Hid (gZ H X U Lr I A F m a4 (Qe gr L.length v) vI D M a6 a7 V wr):=q;have HC:Hid (∀ j,Kr j->G j\/K2 j):=z6;have b7:wr.cell? ⟨w.1.size,5,none⟩=some (Qe g6 b.c.length b4):=c5.t (by rw[g2]);clear q y7 g5 d4 b5 d6 c5 g3 g2 z6;go_wp2_with fail
    refine(hn.2 a4 Lr a6 a7 wr d7 g1 Oa HN.o).mono ?_;rintro e w6 ⟨rfl,j4,i2,L6,c8,c9,h6,y6,u6,g8⟩;obtain⟨o6,q6⟩:=c7.nx y6 (Oo qr);have q6:=q6.t qr
    have m8:Hid (Gd E A F (fun j=>Kd j\/G j) (g a4) L6/\(∀ j,j=(k:Int)\/K j->(Kd j\/G j)\/K2 j)/\∀ j,(Kd j\/G j)->j=(k:Int)\/j < kk):=by
     obtain⟨d1,d2,d3⟩:=z9.o;refine⟨d1.step u6 (fun j hj=>by have:=d3 j hj;omega) hn.1.1 g8,fun j hj=>?_,fun j hj=>?_⟩
     ·rcases d2 j hj with e|e
      ·exact .l (.l e)
      ·exact(HC.o j e).elim (fun e=> .l (.r e)) .r
     ·rcases hj with e|e
      ·have:=d3 j e;omega
      ·have:=hn.1.2 j e;omega
    clear b7 y9 tl g8 z9 HC;go_wp2;go_roundg n2
    case rel=>exact⟨O+1,g a4,L6,c8,c9,kk,h',_,K2,Od,Oa,h6,yr.t y6,ur.t (u6.wide Oa Oa),d7.upd u6,q6,o6,z4,Oa,by rw[<-m5,d0],Oa,j4,m8⟩
    case measure=>omega
   ·have tl:decide ((O:Int) < (b.c.length:Int))=false:=by simp;omega
    rw[List.drop_eq_nil_of_le Oa]at y8;obtain⟨z2,h1,z1⟩:=y8;have HE:Hid (f (nY S FQ P s)=a4):=by rw[Hid,HO.o.1,y0.o,<-d0,z2]
    have m4:Hid (Gd E A F (fun j=>j=(k:Int)\/K j) a4 Lr):=z9.o.1.sub (fun j hj=>(z9.o.2.1 j hj).elim id (fun e=>absurd e (z1 j)));clear z2 m3 z1 z9;go_wp2;go_end0
    rw[HE.o];exact⟨rfl,g1,Oa,Lr,a6,a7,q,yr,ur,m4.o⟩
end
section
variable {H X U:Nat} {L:List NQ} {I A F:List Int} {m:Int} {s:Ns} {Y vI D M B R:Value} {V:List V3} {w w1 w2:World} {C:List NQ} {K:Int->Prop}
theorem infoStr:(prog.info? 9).map (fun i=>(i.zero,i.size,i.bytes))=some (some (.string (ByteArray.mk #[])),1,16):=by kernel_rfl
theorem gZ.b1(h:gZ H X U L I A F m s Y vI D M B R V w){x:ByteArray}{g J:Nat}(n:w1.os=w.os/\w1.tape=w.tape/\w1.output=w.output/\w.1.size<=w1.1.size)(P:∀ l,l < w.1.size->w1.1[l]?=w.1[l]?)(a3:w2.ownsRow H 9 1 (Qe g (s.b.length+1) J) (s.b.length+1) (aB9 s.b++[.string x]))(f:w1.grownBy w2 R.ownBlock)(z:R.ownBlock=some g\/g=w1.1.size):
 gZ H X U L I A F m {s with b:=s.b++[x]} Y vI D M B (Qe g (s.b.length+1) J) V (w2.setCell ⟨X,1,none⟩ (Qe g (s.b.length+1) J))/\Nx X U Y B R B (Qe g (s.b.length+1) J) w (w2.setCell ⟨X,1,none⟩ (Qe g (s.b.length+1) J)):=by
 have y:X < w.1.size:=(Oo h.nm);have cP:=h.size;have a2:=f.size;have old:∀ j,j < w.1.size->R.ownBlock≠some j->w2.1[j]?=w.1[j]?:=fun j d h0=>(f.block j Oa Qg).t Qh
 have W:g≠X:=by
  rcases z with e|e
  ·exact fun O=>cV h.b h.nm Ob Qh
  ·omega
 have off:∀ {j:Nat} {c:Array Value} {Z:TypeId},w.1[j]?=some (.cells c Z (0,0))->Z≠9->j≠X->(w2.setCell ⟨X,1,none⟩ (Qe g (s.b.length+1) J)).1[j]?=w.1[j]?:=fun d h0 k=>(Om k).t (old _ Qg (cV h.b d Qg))
 have i:∀ {p q:Nat} {e:TypeId} {v:Value} {t:List Value},w.ownsRow H e q v p t->e≠9->e≠129->(w2.setCell ⟨X,1,none⟩ (Qe g (s.b.length+1) J)).ownsRow H e q v p t:=fun o u k=>aR o (fun j d=>by
  obtain⟨⟨c,a⟩,_⟩:=aW o d;exact off a u (bR a h.nm k))
 refine⟨⟨aI _ ((old X y (cV h.b h.nm Ob)).t h.nm),(off h.prog Ob (bR h.prog h.nm Ob)).t h.prog,i h.nodes Ob Ob,i h.its Ob Ob,i h.arrs Ob Ob,i h.fns Ob Ob,i h.d Ob Ob,?_,h.c.move (fun j d=>?_),by grind[World.setCell]⟩,⟨f.os.t n.1,f.tape.t n.2.1,f.output.t Qh,by grind[World.setCell],(by grind[Below.heap_setCell]),Qg,fun j d=>?_⟩⟩
 ·grind[aB9,Value.ownBlock,List.length_append,aR,Below.heap_setCell]
 ·obtain⟨⟨c,a⟩,_⟩:=h.c.typ d;rcases a with a|a
  ·exact off a Ob (bR a h.nm Ob)
  ·exact off a Ob (bR a h.nm Ob)
 grind[Value.ownBlock]
theorem aZX(hZ:C.length<=200000){k:Nat}{P:NQ}(z8:C[k]?=some P)(y6:P.d=12){y:Int}(j0:P.c=[y]){g:Ns->Ns}{lo:Int}(b6:lo<=k)(hy:kY H X U I A F m Y vI D M V C y g lo k K):
 kY H X U I A F m Y vI D M V C k (fun s=>(g s).letQ P.s P.at_) lo (k+1) (fun j=>j=(k:Int)\/K j):=by
 refine⟨⟨hy.1.1.comp (aDB P.s P.at_),fun j hj=>hj.elim (fun e=>Oa) (fun e=>by have:=hy.1.2 j e;omega)⟩,?_⟩;intro s L B R w hL hv hs h;obtain⟨b,hb,Z⟩:=hL.same k P z8;have k0:b.c=[y]:=Z.c.t j0;have HO:Hid (b.s=P.s/\b.at_=P.at_/\b.d=12):=⟨Z.s,Z.at_,Z.d.t y6⟩;have b5:k < L.length:=(List.getElem?_eq_some_iff.1 hb).1;have b2:L.length<=200000:=by rw[hL.len];exact hZ
 have Q:(b.d==12)=true:=by rw[Z.d];simp[y6]
 have o1:=h.fresh Ol;obtain⟨⟨p0,_⟩,g0,_⟩:=h.cells;obtain⟨gr,p,a1,n,z,k2,O,k3,k9,j9,z7,⟨e0,e1,e2,e3,e4,e5,e6,e7,e8,e9,a8⟩,_,b4⟩:=h.p0 hb;subst k9;have b3:0<=(k:Int)/\(k:Int) < (L.length:Int):=Oa
 have k6:=z7.k;have y8:b.c[0]?=some y:=by rw[k0];rfl
 obtain⟨W,a4,z1,h6⟩:=dQ k6 y8;have z9:b.c.length=1:=by rw[k0];rfl
 have h1:=h.alloc (rJ b a1 n z k2 O k3);have y1:=(Nx.refl X U (Qe gr L.length p) B R w).alloc (rJ b a1 n z k2 O k3);have j7:W < w.1.size:=Qp w _ h6;have i0:(w.alloc (rJ b a1 n z k2 O k3)).cell? ⟨W,0,none⟩=some (Qc y):=(Qo (Below.heap_alloc w _ W j7)).t h6;have q1:(w.alloc (rJ b a1 n z k2 O k3)).1[w.1.size]?=some (Qf #[Qc b.d,Qc b.at_,.string b.s,Qc b.n,Qc b.mid,.slice a1 b.c.length n,.slice z b.g.length k2,.slice O b.e.length k3,Qc b.b,Qc b.ref,Qc b.f] 73):=Qk w _;have z0:Value.slice a1 b.c.length n= Qe W 1 a4:=by have:=z1;rw[z9]at this ⊢;exact this
 clear h Z y6 z8 k6 z7 h6 z1 y8 j9 k0 j0;go_enter func110,ntmps110
 have g1:Hid (Value.slice a1 b.c.length n= Qe W 1 a4):=z0;clear z0 z9;go_upto_region 1 with fail
 clear p0 g0 e0 e1 e2 e3 e4 e5 e6 e7 e8 e9 a8;generalize (w.alloc (rJ b a1 n z k2 O k3))=W1 at*;have l0:W1.cell? ⟨w.1.size,0,none⟩=some (Qc b.d):=cell_of_row _ _ _ _ _ _ q1;have l5:W1.cell? ⟨w.1.size,5,none⟩=some (Qe W 1 a4):=by rw[<-g1.o];exact cell_of_row _ _ _ _ _ _ q1
 go_wp2_with fail
 refine(hy.2 s L B R W1 hL hv Oa h1).mono ?_;rintro e i ⟨rfl,k4,b8,x,a3,b9,f,z2,u2,j1⟩;have y2:=y1.t z2;obtain⟨o2,q⟩:=o1.nx z2 (Oo q1);have q:=q.t q1;obtain⟨bk,k0,a5,_⟩:=u2.same k b hb;have h9:x.length=L.length:=u2.len;clear l0 l5 i0 h1 y1 z2 q1 o1;have l1:i.cell? ⟨w.1.size,1,none⟩=some (Qc b.at_):=cell_of_row _ _ _ _ _ _ q;have l2:i.cell? ⟨w.1.size,2,none⟩=some (.string b.s):=cell_of_row _ _ _ _ _ _ q;generalize z3:g s=a at*;have HG:Hid (g s=a):=z3;clear z3;go_wp2_with fail
 refine(yI b.s k4 f).mono ?_;rintro e W3 ⟨rfl,rfl⟩;obtain⟨o,cv,rfl,_⟩:=bP f.b;obtain⟨⟨p0,c1,_⟩,g0,_⟩:=f.cells;obtain⟨g9,a9,v9,k9,-,-,h8,k8⟩:=f.node k0;simp only[Value.slice.injEq,Option.some.injEq,Addr.mk.injEq]at k9;obtain⟨⟨rfl,-⟩,-,rfl⟩:=k9;have e9:i.cell? ⟨gr,k*11+9,none⟩=some (Qc bk.ref):=h8 9 Oa;have f9:=k8 (k*11+9);have y9:=k4;have k5:Qe gr L.length p=Qe gr x.length p:=by rw[h9]
 obtain⟨j2,a7,u3⟩:=f.d1 k0 (a.b.length:Int) k5;have y7:Hid (Gd C A F (fun j=>j=(k:Int)\/K j) (a.letQ P.s P.at_) (x.set k {bk with ref:=(a.b.length:Int)})):=aYB j1 (fun j hj=>(hy.1.2 j hj).2) k0 (a5.d.t HO.o.2.2);have y3:=y2.t (a7.drewN 1);have z6:w.1.size≠gr:=fun e=>o2.l (by rw[e];rfl);have u:(i.setCell ⟨gr,k*11+9,none⟩ (Qc a.b.length)).drew.1[w.1.size]?=_:=(Below.heap_setCell i ⟨gr,k*11+9,none⟩ (Qc a.b.length) w.1.size z6).t q;have a6:=(u2.wide (lo':=lo) (hi':=(k:Int)+1) (Int.le_refl _) Oa).t (u3.wide Oa Oa);obtain⟨a2,y5⟩:∃ a2,a2=a.var b.s:=⟨_,rfl⟩;rw[<-y5]
 have v:Hid (a.letQ P.s P.at_=if 0<=a2 then a.e0 4 b.at_ else if 12<=a.b.length then a.e0 5 b.at_ else {a with b:=a.b++[b.s]}):=by
  unfold Hid Ns.letQ;rw[<-HO.o.1,<-HO.o.2.1,y5]
 have H3:Hid (gZ H X U (x.set k {bk with ref:=(a.b.length:Int)}) I A F m a (Qe gr L.length p) vI D M a3 (.slice o a.b.length cv) V (i.setCell ⟨gr,k*11+9,none⟩ (Qc a.b.length)).drew/\Nx X U (Qe gr L.length p) B R a3 (.slice o a.b.length cv) w (i.setCell ⟨gr,k*11+9,none⟩ (Qc a.b.length)).drew/\xZ lo (k+1) L (x.set k {bk with ref:=(a.b.length:Int)})):=⟨j2.drewN 1,y3,a6⟩;have o3:=o2;clear h8 k8 f j1 y2 q o2 u2 a5 j2 a7 y3 u3 a6 l1 l2 y5 k5 z6 h9;go_upto_region 4 with fail
 go_region
 clear p0 c1 g0 e9 f9;generalize (i.setCell ⟨gr,k*11+9,none⟩ (Qc a.b.length)).drew=d at*;generalize (x.set k {bk with ref:=(a.b.length:Int)})=L4 at*;obtain⟨c,y4,u4⟩:=H3.o;have l1:d.cell? ⟨w.1.size,1,none⟩=some (Qc b.at_):=cell_of_row _ _ _ _ _ _ u;have l2:d.cell? ⟨w.1.size,2,none⟩=some (.string b.s):=cell_of_row _ _ _ _ _ _ u
 by_cases h0:0<=a2
 ·have t0:decide (0<=a2)=true:=by simp[h0]
  have l:Hid (a.letQ P.s P.at_=a.e0 4 b.at_):=by rw[Hid,v.o,if_pos h0]
  clear v h0 u;go_wp2_with fail
  refine(jW 4 b.at_ c).mono ?_;rintro e W5 ⟨rfl,h5,z5⟩;clear l1 l2 H3 c;go_wp2;refine bodyPost_ret (results_none rfl _ _ _) rfl ?_;rw[HG.o,l.o];exact⟨rfl,by rw[(cY a 4 b.at_).2];exact y9,by rw[(cY a 4 b.at_).1];omega,L4,_,_,h5,y4.t z5,u4,by have:=y7.o;rw[l.o]at this;exact this⟩
 ·have t0:decide (0<=a2)=false:=by simp;omega
  by_cases f:12<=a.b.length
  ·have t1:decide ((12:Int)<=(a.b.length:Int))=true:=by simp;omega
   have l:Hid (a.letQ P.s P.at_=a.e0 5 b.at_):=by rw[Hid,v.o,if_neg h0,if_pos f]
   obtain⟨⟨p0,c1,_⟩,_⟩:=c.cells;have HH:Hid (gZ H X U L4 I A F m a (Qe gr L.length p) vI D M a3 (.slice o a.b.length cv) V d):=c;clear v h0 u f c;go_wp2_with fail
   refine(jW 5 b.at_ HH.o).mono ?_;rintro e W5 ⟨rfl,h5,z5⟩;clear l1 l2 H3 HH p0 c1;go_wp2;refine bodyPost_ret (results_none rfl _ _ _) rfl ?_;rw[HG.o,l.o];exact⟨rfl,by rw[(cY a 5 b.at_).2];exact y9,by rw[(cY a 5 b.at_).1];omega,L4,_,_,h5,y4.t z5,u4,by have:=y7.o;rw[l.o]at this;exact this⟩
  ·have t1:decide ((12:Int)<=(a.b.length:Int))=false:=decide_eq_false Oa;have l:Hid (a.letQ P.s P.at_={a with b:=a.b++[b.s]}):=by rw[Hid,v.o,if_neg h0,if_neg f]
   obtain⟨⟨p0,c1,_,_,cf⟩,_⟩:=c.cells;have f1:=cf 1;obtain⟨i0,j6,j5,j4,j3⟩:=info_parts infoStr;have y0:X < d.1.size:=Qp _ _ p0;have z4:w.1.size < d.1.size:=(Oo u);have hH:=c.size;have ho:=c.b;have ag:some X≠(Value.slice o a.b.length cv).ownBlock:=fun e=>cV c.b c.nm Ob e.symm;have HH:Hid (gZ H X U L4 I A F m a (Qe gr L.length p) vI D M a3 (.slice o a.b.length cv) V d):=c;clear v h0 u c cf;have aq:some w.1.size≠(Value.slice o a.b.length cv).ownBlock:=fun e=>o3.v e.symm;go_upto_region 5 with fail
   go_region_law
    ((refine step_append_lies _ (by rfl) _ _ _ (by rfl) H 9 i0 _ 1 16 underlying58 j6 j5 j4 j3 rfl Oa (.slice o a.b.length cv) a.b.length (aB9 a.b) (by rfl) ((ho.alloc _).drew)
       ⟨d.1.size,0,none⟩ 1 1 [.string b.s] (by rfl) (by rfl) (World.news_of_block (cs:=#[.string b.s]) (t:=9) (fr:=(0,0)) (Qk d _)) (by simp[Value.oneCell'])
       Oa (by unfold maxLen;omega) Oa (by simp;omega) (d.1.size+1) Od ?_;intro gg J w1 k7 h7 j8 b7;have q1:=(h7.cell_far ⟨X,1,none⟩ (gK y0) ag).t (lT y0 c1);have q:=(h7.frozen_far ⟨X,1,none⟩ (gK y0) ag).t (rO y0 f1);have u:=(h7.cell_far ⟨w.1.size,2,none⟩ (gK z4) aq).t (lT z4 l2)))
   all_goals obtain⟨h5,z5⟩:=HH.o.b1 (w1:=(d.alloc (Qf #[.string b.s] 9)).drew) ⟨rfl,rfl,rfl,by simp[World.drew]⟩ (fun _ hk=>On hk) k7 h7 (j8.imp id (fun e=>e.t (by simp[World.drew])))
   all_goals go_wp2
   all_goals refine bodyPost_ret (results_none rfl _ _ _) rfl ?_
   all_goals rw[HG.o,l.o]
   all_goals exact⟨rfl,by simp;omega,by show(a.d.length:Int)<=_;omega,L4,_,_,h5,y4.t z5,u4,by have:=y7.o;rw[l.o]at this;exact this⟩
end
end Go.Proofs.YtikffmloeifkpaaGreatDoor
