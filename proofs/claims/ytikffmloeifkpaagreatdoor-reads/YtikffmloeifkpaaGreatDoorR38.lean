/- Contracts. -/
import Derived.Test.YtikffmloeifkpaaGreatDoorR29
import Derived.Test.YtikffmloeifkpaaGreatDoorR31
import Derived.Test.YtikffmloeifkpaaGreatDoorR19
import Derived.Test.YtikffmloeifkpaaGreatDoorR36
namespace Go.Proofs.YtikffmloeifkpaaGreatDoor
open Go.RowKit Go.Lib Go.Deep
section
def kyF(c p:Int):Int:=if c=0 then 1000000 else p*8+c
def Ns.key(s:Ns):Int:=kyF s.a s.e
def okF(c p:Int):Prop:=c=0\/(0 < c/\c < 8/\0<=p/\p<=5000)
def Ns.G(s:Ns):Ns:=⟨s.b,0,0,[]⟩
theorem bQX{c p c' p':Int}(h:okF c p)(a:okF c' p')(e:kyF c p=kyF c' p'):(c=0/\c'=0)\/(c≠0/\c=c'/\p=p'):=by
 grind[kyF,okF]
theorem bOS{c p:Int}(h:okF c p):kyF c p<=1000000:=by
 grind[kyF,okF]
theorem bMR{s:Ns}{e p:Int}(h:okF s.a s.e)(a:0 < e/\e < 8)(b:0<=p/\p<=5000):okF (s.E e p).a (s.E e p).e/\(s.E e p).key=min s.key (p*8+e)/\(s.E e p).G=s.G:=by
 unfold Ns.E Ns.key kyF;unfold okF at h
 by_cases c:s.a=0\/p < s.e\/(p=s.e/\e < s.a)
 ·rw[if_pos c];refine⟨.r ⟨a.1,a.2,b.1,b.2⟩,?_,rfl⟩
  grind
 ·rw[if_neg c];refine⟨h,?_,rfl⟩;omega
structure Lin(g:Ns->Ns)(P:List Int):Prop where
 ok:∀ s:Ns,okF s.a s.e->okF (g s).a (g s).e
 cl:∀ s:Ns,okF s.a s.e->(g s).G=(g s.G).G
 key:∀ s:Ns,okF s.a s.e->(g s).key=min s.key (g s.G).key
 bd:∀ s:Ns,(g s.G).key=1000000\/∃ p∈P,p*8 < (g s.G).key/\(g s.G).key < p*8+8
section
variable {f g:Ns->Ns} {P Q:List Int}
theorem bMZ(s:Ns):okF s.G.a s.G.e:= .l rfl
theorem Lin.sub(h:Lin g P)(c:∀ p∈P,p∈Q):Lin g Q:=⟨h.ok,h.cl,h.key,fun s=>(h.bd s).imp id (fun⟨p,a,b⟩=>⟨p,c p a,b⟩)⟩
theorem Lin.id:Lin (fun s=>s) P:=⟨Od,fun _ _=>rfl,fun s h=>by
 have:s.G.key=1000000:=rfl;have a:s.key<=1000000:=bOS h;omega,fun _=> .l rfl⟩
theorem Lin.comp(h:Lin f P)(k:Lin g Q):Lin (fun s=>g (f s)) (P++Q):=by
 have i:∀ s,okF s.a s.e->(g (f s)).G=(g (f s.G)).G:=fun s a=>by
  rw[k.cl _ (h.ok s a),h.cl s a,<-k.cl _ (h.ok _ (bMZ s))]
 have j:∀ s,okF s.a s.e->(g (f s)).key=min s.key (g (f s.G)).key:=fun s a=>by
  rw[k.key _ (h.ok s a),k.key _ (h.ok _ (bMZ s)),h.cl s a,h.key s a];omega
 refine⟨fun s a=>k.ok _ (h.ok s a),i,j,fun s=>?_⟩;have d:=k.key _ (h.ok _ (bMZ s));have c:=h.bd s;have b:=k.bd (f s.G);have n:(f s.G).key<=1000000:=bOS (h.ok _ (bMZ s));have o:(g (f s.G).G).key<=1000000:=bOS (k.ok _ (bMZ _));rw[d];rcases c with c|⟨p,r,t⟩
 ·rcases b with b|⟨q,l,m⟩
  ·omega
  ·exact .r ⟨q,Qh,Oa⟩
 ·rcases b with b|⟨q,l,m⟩
  ·exact .r ⟨p,Qh,Oa⟩
  ·rcases(by omega:(f s.G).key<=(g (f s.G).G).key\/(g (f s.G).G).key<=(f s.G).key)with e|e
   ·exact .r ⟨p,Qh,Oa⟩
   ·exact .r ⟨q,Qh,Oa⟩
theorem Lin.ite{C:Ns->Prop}[DecidablePred C](b:∀ s,C s↔C s.G)(h:Lin f P)(k:Lin g P):Lin (fun s=>if C s then f s else g s) P:=by
 refine⟨fun s a=>?_,fun s a=>?_,fun s a=>?_,fun s=>?_⟩
 ·split
  ·exact h.ok s a
  ·exact k.ok s a
 ·by_cases c:C s
  ·rw[if_pos c,if_pos ((b s).1 c)];exact h.cl s a
  ·rw[if_neg c,if_neg (fun e=>c ((b s).2 e))];exact k.cl s a
 ·by_cases c:C s
  ·rw[if_pos c,if_pos ((b s).1 c)];exact h.key s a
  ·rw[if_neg c,if_neg (fun e=>c ((b s).2 e))];exact k.key s a
 ·split
  ·exact h.bd s
  ·exact k.bd s
theorem Lin.E{e p:Int}(a:0 < e/\e < 8)(b:0<=p/\p<=5000):Lin (fun s=>s.E e p) [p]:=by
 refine⟨(by grind[bMR]),fun s c=>?_,fun s c=>?_,fun s=> .r ⟨p,Od,?_⟩⟩
 ·exact(bMR c a b).2.2.t rfl
 ·have i:=(bMR c a b).2.1;have d:=(bMR (bMZ s) a b).2.1;have h:s.G.key=1000000:=rfl;omega
 ·have d:=(bMR (bMZ s) a b).2.1;have h:s.G.key=1000000:=rfl;omega
theorem Lin.f(k p:Int):Lin (fun s=>s.f k p) P:=⟨fun _ h=>h,fun _ _=>rfl,fun s h=>by
 have a:(s.G.f k p).key=1000000:=rfl;have b:(s.f k p).key=s.key:=rfl;have c:s.key<=1000000:=bOS h;omega,fun _=> .l rfl⟩
theorem Lin.add(x:ByteArray):Lin (fun s=>{s with b:=s.b++[x]}) P:=⟨Od,fun _ _=>rfl,fun s h=>by
 show s.key=min s.key (1000000:Int);have a:s.key<=1000000:=bOS h;omega,fun _=> .l rfl⟩
end
theorem bTB(x:ByteArray):∀ (l:List ByteArray) (k:Int),0<=k->(0<=bQA x l k↔x∈l)
 |[],k,h=>by simp[bQA]
 |y::r,k,h=>by
  have:=bTB x r (k+1) Oa
  grind[bQA]
theorem Ns.var_mem(s:Ns)(x:ByteArray):0<=s.var x↔x∈s.b:=bTB x s.b 0 Oa
def bRR(s:Rs)(n:Ns):Prop:=(∀ x,(bCK x s.b).isSome=true↔x∈n.b)/\s.b.length=n.b.length
structure Sq(f:Rs->Rs)(g:Ns->Ns)(P:List Int):Prop where
 lin:Lin g P
 st:∀ s:Rs,s.a≠0->(f s).a=s.a/\(f s).e=s.e
 run:∀ (s:Rs) (n:Ns),s.a=0->bRR s n->((f s).a=0/\(g n.G).a=0/\bRR (f s) (g n.G))\/((f s).a≠0/\(f s).a=(g n.G).a/\(f s).e=(g n.G).e)
section
variable {f E:Rs->Rs} {g B:Ns->Ns} {P Q:List Int}
theorem Sq.sub(h:Sq f g P)(a:∀ p∈P,p∈Q):Sq f g Q:=⟨h.lin.sub a,h.st,h.run⟩
theorem Sq.id:Sq (fun s=>s) (fun s=>s) P:=⟨Lin.id,Oa,fun _ _ h k=> .l Qj⟩
theorem Sq.comp(h:Sq f g P)(k:Sq E B Q)(y:∀ r∈P,∀ t∈Q,r < t):Sq (fun s=>E (f s)) (fun s=>B (g s)) (P++Q):=by
 refine⟨h.lin.comp k.lin,fun s c=>?_,fun s n c o=>?_⟩
 ·obtain⟨a,i⟩:=h.st s c;obtain⟨b,d⟩:=k.st (f s) Oa;omega
 ·have e:=h.lin.ok _ (bMZ n);have q:=k.lin.ok _ e;have l:=k.lin.ok _ (bMZ (g n.G));have w:=k.lin.key _ e;have u:=k.lin.bd (g n.G);rcases h.run s n c o with⟨a,i,j⟩|⟨a,i,j⟩
  ·have A:(g n.G).key=1000000:=by grind[Ns.key,kyF]
   have x:(B (g n.G).G).key<=1000000:=bOS l;have m:(B (g n.G)).key=(B (g n.G).G).key:=Qg
   have z:(B (g n.G)).b=(B (g n.G).G).b:=show(B (g n.G)).G.b=(B (g n.G).G).G.b by rw[k.lin.cl _ e]
   have hi:=bQX q l m;rcases k.run (f s) (g n.G) a j with⟨b,d,p,C⟩|⟨b,d,p⟩
   ·refine .l ⟨b,Oa,?_,?_⟩
    ·simp[*]
    simp[*]
   omega
  ·obtain⟨b,d⟩:=k.st (f s) a;have v:=h.lin.bd n
   grind[Ns.key,kyF,okF]
end
theorem Rs.fail_st(s:Rs)(c p:Int)(h:s.a≠0):(s.fail c p).a=s.a/\(s.fail c p).e=s.e:=by grind[Rs.fail]
theorem Rs.fail_new(s:Rs)(c p:Int)(h:s.a=0):s.fail c p=⟨s.b,c,p⟩:=if_pos h
theorem Sq.one{e p:Int}(b:0 < e/\e < 8)(c:0<=p/\p<=5000):Sq (fun s=>s.fail e p) (fun s=>s.E e p) [p]:=by
 refine⟨Lin.E b c,fun s a=>s.fail_st e p a,fun s n a d=> .r ?_⟩;rw[Rs.fail_new s e p a];unfold Ns.E;rw[if_pos Oy]
 grind
theorem Sq.f(k p:Int){P:List Int}:Sq (fun s=>s) (fun s=>s.f k p) P:=⟨Lin.f k p,Oa,fun _ _ h k=> .l Qj⟩
theorem Sq.ite{f E:Rs->Rs}{g B:Ns->Ns}{P:List Int}{C:Rs->Prop}{D:Ns->Prop}[DecidablePred C][DecidablePred D](d:∀ s,D s↔D s.G)(j:∀ s n,bRR s n->(C s↔D n))(h:Sq f g P)(k:Sq E B P):Sq (fun s=>if C s then f s else E s) (fun s=>if D s then g s else B s) P:=by
 refine⟨Lin.ite d h.lin k.lin,fun s a=>?_,fun s n a b=>?_⟩
 ·split
  ·exact h.st s a
  ·exact k.st s a
 ·have i:=(j s n b).t (d n)
  by_cases c:C s
  ·rw[if_pos c,if_pos (i.1 c)];exact h.run s n a b
  ·rw[if_neg c,if_neg (fun e=>c (i.2 e))];exact k.run s n a b
structure bVA(F:cM)(its:List Tr)(S:List (ByteArray × Int))(FQ:List (Nat × Nat)):Prop where
 arr:∀ x,(fY F its x).isSome=true↔0<=bL8 x 1 S 0
 fn:∀ x,(eK F its x=none/\bL8 x 2 S 0 < 0)\/∃ b o a l r,eK F its x=some (.node b o a l r)/\0<=bL8 x 2 S 0/\(FQ.getD (bL8 x 2 S 0).toNat (0,0)).1=aD l
variable {F:cM} {its:List Tr} {S:List (ByteArray × Int)} {FQ:List (Nat × Nat)}
theorem cA6(x:ByteArray){p:Int}(a:0<=p/\p<=5000):Sq (fun s=>s.oldVar x p) (fun s=>if s.var x < 0 then s.E 4 p else s) [p]:=by
 have h:=Sq.ite (C:=fun s:Rs=>¬(bCK x s.b).isSome=true) (D:=fun n:Ns=>n.var x < 0) (fun _=>Iff.rfl) (fun s n b=>by
  have:=n.var_mem x;have:=b.1 x
  grind) (Sq.one (e:=4) (p:=p) Oa a) Sq.id
 grind[bCK,Rs.oldVar]
theorem bUE(p:bVA F its S FQ){a:Nd}(n:Nat)(j:eO a.a=true->0<=a.b/\a.b<=5000)(x: ¬(a.a=9/\a.flag=true)):Sq (rs1 F its a n) (nm1 S FQ a n) (if eO a.a then[a.b]else[]):=by
 by_cases u:a.a=1\/(a.a=9/\a.flag=false)
 ·have i:rs1 F its a n=fun s=>s.oldVar a.h a.b:=(by grind[rs1]);have d:nm1 S FQ a n=fun s=>if s.var a.h < 0 then s.E 4 a.b else s:=funext fun s=>if_pos u
  have h:eO a.a=true:=by grind[eO]
  rw[i,d,if_pos h];exact cA6 _ (j h)
 have z:a.a≠1/\a.a≠9:=Qg
 by_cases A:a.a=2\/a.a=10
 ·have h:eO a.a=true:=by grind[eO]
  have i:rs1 F its a n=fun s=>if(fY F its a.h).isSome=true then s else s.fail 4 a.b:=(by grind[rs1,Rs.P])
  have d:nm1 S FQ a n=fun s=>if bL8 a.h 1 S 0 < 0 then(s.f (if a.a=10 then 2 else 1) a.b).E 4 a.b else s.f (if a.a=10 then 2 else 1) a.b:=(by grind[nm1])
  rw[i,d,if_pos h];have y:=p.arr a.h
  by_cases c:(fY F its a.h).isSome=true
  ·have c2: ¬bL8 a.h 1 S 0 < 0:=Qg;simp only[if_pos c,if_neg c2];exact Sq.f _ _
  ·have c2:bL8 a.h 1 S 0 < 0:=Qg;simp only[if_neg c,if_pos c2];exact((Sq.f (P:=[]) _ _).comp (Sq.one (e:=4) Oa (j h)) Od).sub Od
 by_cases v:a.a=3
 ·have h:eO a.a=true:=by simp[eO,v]
  have i:rs1 F its a n=fun s=>s.O F its a.h a.b n:=(by grind[rs1]);have d:nm1 S FQ a n=fun s=>if bL8 a.h 2 S 0 < 0 then(s.call FQ (bL8 a.h 2 S 0) n a.b).E 4 a.b else s.call FQ (bL8 a.h 2 S 0) n a.b:=(by grind[nm1])
  rw[i,d,if_pos h];rcases p.fn a.h with⟨k,m⟩|⟨b,o,w,l,r,k,m,t⟩
  ·simp only[if_pos m,Rs.O,k,Ns.call];exact Sq.one Oa (j h)
  ·have q: ¬bL8 a.h 2 S 0 < 0:=Oa;simp only[if_neg q,Rs.O,k,Ns.call,t]
   by_cases c:n=aD l
   ·have c2: ¬aD l≠n:=Oa;simp only[if_pos c,if_neg c2]
    by_cases c3:0 < (FQ.getD (bL8 a.h 2 S 0).toNat (0,0)).2
    ·simp only[if_pos c3];exact Sq.f _ _
    ·simp only[if_neg c3];exact Sq.id
   ·have c2:aD l≠n:=Oa;simp only[if_neg c,if_pos c2]
    by_cases c3:0 < (FQ.getD (bL8 a.h 2 S 0).toNat (0,0)).2
    ·simp only[if_pos c3];exact((Sq.one (e:=5) Oa (j h)).comp (Sq.f (P:=[]) _ _) Od).sub Od
    ·simp only[if_neg c3];exact Sq.one Oa (j h)
 have i:rs1 F its a n=fun s=>s:=(by grind[rs1]);rw[i]
 by_cases C:a.a=6
 ·by_cases c:a.op=30\/a.op=31
  ·have d:nm1 S FQ a n=fun s=>s.f 3 a.e:=(by grind[nm1]);rw[d];exact Sq.f _ _
  ·have d:nm1 S FQ a n=fun s=>s:=(by grind[nm1])
   grind[Sq.id]
 ·have d:nm1 S FQ a n=fun s=>s:=(by grind[nm1]);rw[d];exact Sq.id
end
section
variable {F:cM} {its:List Tr} {S:List (ByteArray × Int)} {FQ:List (Nat × Nat)}
theorem bTC{s:Rs}{n:Ns}{x:ByteArray}(h:bRR s n)(c:x ∉ n.b):bRR (s.V x) {n with b:=n.b++[x]}:=by
 have a:bCK x s.b=none:=by
  cases e:bCK x s.b with
  |none=>rfl
  |some v=>exact absurd ((h.1 x).1 Qh) c
 refine⟨fun y=>?_,?_⟩
 ·show(bCK y (put x s.b.length s.b)).isSome=true↔y∈n.b++[x]
  by_cases e:y=x
  ·grind[lU]
  ·rw[kX e,h.1 y];simp[e]
 ·show(put x s.b.length s.b).length=(n.b++[x]).length;rw[nO,a];simp[h.2]
theorem bY2(a:Nd)(c:Nat)(s:Ns):(nm1 S FQ a c s).b=s.b:=by
 unfold nm1
 split
 ·grind[bL7]
 split
 ·dsimp only
  split
  ·exact(bL7 _ _ _).2
  ·rfl
 split
 ·grind[bL7,bRP]
 split
 ·split<;>rfl
 ·rfl
theorem bY1:∀ (t:Tr) (s:Ns),eE t=0->(nmT S FQ t s).b=s.b:=by
 intro t
 induction t with
 |nil=>intro s _;rfl
 |node b o a l r ihl ihr=>
  intro s h;rw[eD]at h
  grind[bNI,bY2]
theorem bZ8{x:ByteArray}{p:Int}(a:0<=p/\p<=5000):Lin (fun s=>s.letQ x p) [p]:=
 Lin.ite (C:=fun s=>0<=s.var x) (fun _=>Iff.rfl) (Lin.E Oa a) (Lin.ite (C:=fun s=>12<=s.b.length) (fun _=>Iff.rfl) (Lin.E Oa a) (Lin.add x))
theorem cA7{l:Tr}{x:ByteArray}{p:Int}(J:eE l=0)(A:0<=p/\p<=5000)(O:∀ L∈ps l,p < L)(h:Sq (rsT F its l) (nmT S FQ l) (ps l)):Sq (fun s=>(rsT F its l (s.K x p 12)).V x) (fun s=>(nmT S FQ l s).letQ x p) (ps l++[p]):=by
 refine⟨h.lin.comp (bZ8 A),fun s a=>?_,fun s n a k=>?_⟩
 ·have i:(s.K x p 12).a=s.a/\(s.K x p 12).e=s.e:=by
   unfold Rs.K;have u:=s.fail_st 4 p a;have v:=s.fail_st 5 p a;have D:=(s.fail 4 p).fail_st 5 p Oa
   grind
  obtain⟨r,j⟩:=h.st (s.K x p 12) Oa;exact⟨r.t i.1,j.t i.2⟩
 ·have t:=bY1 (S:=S) (FQ:=FQ) l n.G J;have C:=k.1 x;have q:=(nmT S FQ l n.G).var_mem x;rw[t]at q;have G:=h.lin.ok _ (bMZ n);have M:=h.lin.bd n
  have w:∀ e,(e=4\/e=5)->s.K x p 12=⟨s.b,e,p⟩->(nmT S FQ l n.G).letQ x p=(nmT S FQ l n.G).E e p->((rsT F its l (s.K x p 12)).V x).a≠0/\((rsT F its l (s.K x p 12)).V x).a=((nmT S FQ l n.G).letQ x p).a/\((rsT F its l (s.K x p 12)).V x).e=((nmT S FQ l n.G).letQ x p).e:=fun e z i r=>by
   have I:(s.K x p 12).a≠0:=Qg
   obtain⟨j,y⟩:=h.st _ I;rw[i]at j y;have K:=bMR (e:=e) (p:=p) G (by rcases z with rfl|rfl<;>decide) A
   have N:((nmT S FQ l n.G).E e p).key=p*8+e:=by
    grind
   have H:=bQX K.1 (c':=e) (p':=p) (.r (by rcases z with rfl|rfl<;>omega)) (by
    show((nmT S FQ l n.G).E e p).key=_
    grind[kyF])
   rcases H with⟨_,e0⟩|⟨_,m,o⟩
   ·omega
   ·rw[r,i];exact⟨by show(rsT F its l _).a≠0;grind,j.t m.symm,y.t o.symm⟩
  by_cases c:(bCK x s.b).isSome=true
  ·refine .r (w 4 Oa ?_ ?_)
   ·unfold Rs.K;rw[if_pos c,s.fail_new 4 p a]
    split
    ·rfl
    ·rfl
   ·unfold Ns.letQ;rw[if_pos (q.2 (C.1 c))]
  have c2: ¬0<=(nmT S FQ l n.G).var x:=fun e=>c (C.2 (q.1 e))
  by_cases d:(12:Int)<=s.b.length
  ·refine .r (w 5 Oa ?_ ?_)
   ·unfold Rs.K;rw[if_pos d,if_neg c,s.fail_new 5 p a]
   ·unfold Ns.letQ;rw[if_neg c2,if_pos (by rw[t];show 12<=n.b.length;rw[<-k.2];omega)]
  have m:s.K x p 12=s:=by
   grind[Rs.K]
  have o:(nmT S FQ l n.G).letQ x p={nmT S FQ l n.G with b:=(nmT S FQ l n.G).b++[x]}:=by
   unfold Ns.letQ;rw[if_neg c2,if_neg (by rw[t];show ¬12<=n.b.length;rw[<-k.2];omega)]
  rw[m,o];rcases h.run s n a k with⟨u,v,D⟩|⟨u,v,D⟩
  ·exact .l ⟨u,v,(by grind[bTC])⟩
  ·exact .r Qj
theorem bVF(y:bVA F its S FQ):∀ (t:Tr) (z:Nat),Ws z t->(∀ x∈ps t,0<=x/\x<=5000)->(ps t).Pairwise (·< ·)->Sq (rsT F its t) (nmT S FQ t) (ps t):=by
 intro t
 induction t with
 |nil=>intro z _ _ _;exact Sq.id
 |node b o a l r ihl ihr=>
  intro z K h m;obtain⟨_,x,C,D,w,v⟩:=K.parts
  by_cases A:a.a=6
  ·have e:ps (.node b o a l r)=ps l++a.e::ps r:=if_pos A;rw[e]at h m ⊢;obtain⟨j,u,H⟩:=List.pairwise_append.1 m;have d: ¬(a.a=9/\a.flag=true):=Oa;have k:=ihl x w (fun q c=>h q (List.mem_append_left _ c)) j;have p:=ihr C v (fun q c=>h q (List.mem_append_right _ (Qu _ c))) (List.pairwise_cons.1 u).2;have i:=bUE y (a:=a) (aD l) (fun e=>by simp[eO,A]at e) d;have n:eO a.a=false:=by simp[eO,A]
   rw[if_neg (by simp[n])]at i;rw[bNI d,show rsT F its (.node b o a l r)=fun s=>rsT F its r (rsT F its l (rs1 F its a (aD l) s))from funext fun s=>jM d];exact((i.comp k Od).comp p Qg).sub Qg
  ·by_cases n:eO a.a=true
   ·have e:ps (.node b o a l r)=a.b::(ps l++ps r):=by
     show(if a.a=6 then _ else _)=_;simp[*]
    rw[e]at h m ⊢;obtain⟨N,j⟩:=List.pairwise_cons.1 m;obtain⟨j,u,H⟩:=List.pairwise_append.1 j;have G:=h a.b Qs;have k:=ihl x w (fun q c=>h q (Qu _ (List.mem_append_left _ c))) j
    by_cases d:a.a=9/\a.flag=true
    ·have I:rsT F its (.node b o a l r)=fun s=>(rsT F its l (s.K a.h a.b 12)).V a.h:=(by grind[rsT,rs1]);have J:nmT S FQ (.node b o a l r)=fun s=>(nmT S FQ l s).letQ a.h a.b:=(by grind[nmT]);rw[I,J];rw[d.1]at D;have M:=(aTR D).1;exact(cA7 (by grind[aK2]) G (fun q c=>Qh) k).sub Qg
    ·have p:=ihr C v (fun q c=>h q (Qu _ (List.mem_append_right _ c))) u;have i:=bUE y (a:=a) (aD l) (fun _=>G) d;rw[if_pos n]at i;rw[bNI d,show rsT F its (.node b o a l r)=fun s=>rsT F its r (rsT F its l (rs1 F its a (aD l) s))from funext fun s=>jM d]
     exact((i.comp k (fun q c O L=>by
      rw[List.mem_singleton.1 c];simp[*])).comp p Qg).sub Od
   ·have e:ps (.node b o a l r)=ps l++ps r:=by
     show(if a.a=6 then _ else _)=_;simp[*]
    rw[e]at h m ⊢;obtain⟨j,u,H⟩:=List.pairwise_append.1 m;have d: ¬(a.a=9/\a.flag=true):=(by grind[eO]);have k:=ihl x w (fun q c=>h q (List.mem_append_left _ c)) j;have p:=ihr C v (fun q c=>h q (List.mem_append_right _ c)) u;have i:=bUE y (a:=a) (aD l) (fun e=>absurd e n) d;rw[if_neg n]at i;rw[bNI d,show rsT F its (.node b o a l r)=fun s=>rsT F its r (rsT F its l (rs1 F its a (aD l) s))from funext fun s=>jM d];exact((i.comp k Od).comp p Qi).sub Od
end
section
variable {F:cM} {its:List Tr} {S:List (ByteArray × Int)} {FQ:List (Nat × Nat)} {T:List Tok}
structure Ups(T:List Tok):Prop where
 up:∀ i j,i < j->j < T.length->(dD T i).e < (dD T j).e
 lo:∀ i,i < T.length->0<=(dD T i).e/\(dD T i).e<=5000
def Bt(T:List Tok)(i j:Nat)(p:Int):Prop:=∃ k,i<=k/\k < j/\p=(dD T k).e
theorem Bt.lt(a:Ups T){i j K j':Nat}{p q:Int}(h:Bt T i j p)(k:Bt T K j' q)(e:j<=K)(d:j'<=T.length):p < q:=by
 obtain⟨x,b,c,rfl⟩:=h;obtain⟨y,l,m,rfl⟩:=k;exact a.up x y Oa Oa
theorem Bt.mono{i j K j':Nat}{p:Int}(h:Bt T i j p)(b:K<=i)(c:j<=j'):Bt T K j' p:=by
 obtain⟨x,d,e,a⟩:=h;exact⟨x,Oa,Oa,a⟩
theorem Bt.bd(a:Ups T){i j:Nat}{p:Int}(h:Bt T i j p)(b:j<=T.length):0<=p/\p<=5000:=by
 obtain⟨x,c,d,rfl⟩:=h;exact a.lo x Oa
theorem Sg.bt{i j:Nat}{l:List Int}(h:Sg T i j l):∀ p∈l,Bt T i j p:=by
 obtain⟨_,d,rfl,_,a⟩:=h;intro p c;obtain⟨k,b,rfl⟩:=List.mem_map.1 c;exact⟨k,(a k b).1,(a k b).2,rfl⟩
theorem Sg.pw(d:Ups T){i j:Nat}{l:List Int}(h:Sg T i j l)(k:j<=T.length):l.Pairwise (·< ·):=by
 obtain⟨_,p,rfl,e,n⟩:=h;exact List.pairwise_map.2 (e.imp_of_mem (fun {a b} m o c=>d.up a b c Qg))
theorem bZP(c:bVA F its S FQ)(b:Ups T){t:Tr}{p i j:Nat}(d:Ws p t)(h:Sg T i j (ps t))(a:j<=T.length):Sq (rsT F its t) (nmT S FQ t) (ps t):=
 bVF c t p d (fun x e=>(h.bt x e).bd b a) (h.pw b a)
def bQE(x:ByteArray)(p:Int)(s:Ns):Ns:=(fun s:Ns=>{s with b:=s.b++[x]}) ((fun s:Ns=>if 4<=s.b.length then s.E 5 p else s) ((fun s:Ns=>if 0<=s.var x then s.E 4 p else s) s))
theorem bWO(s:Rs)(x:ByteArray)(p m:Int)(a:s.a≠0):(s.K x p m).a=s.a/\(s.K x p m).e=s.e:=by
 unfold Rs.K;have b:=s.fail_st 4 p a;have c:=s.fail_st 5 p a;have d:=(s.fail 4 p).fail_st 5 p Oa
 grind
theorem bO4(n:Ns)(e p:Int):n.G.E e p={n.G with a:=e,e:=p}:=rfl
theorem bX2(x:ByteArray){p:Int}(o:0<=p/\p<=5000):Sq (fun s=>s.param x p) (bQE x p) [p]:=by
 refine⟨(((Lin.ite (C:=fun s=>0<=s.var x) (fun _=>Iff.rfl) (Lin.E (e:=4) Oa o) Lin.id).comp (Lin.ite (C:=fun s=>4<=s.b.length) (fun _=>Iff.rfl) (Lin.E (e:=5) Oa o) Lin.id)).comp (Lin.add (P:=[]) x)).sub Od,fun s j=>bWO s x p 4 j,fun s n j k=>?_⟩;have q:=k.1 x;have l:=n.var_mem x
 by_cases c:(bCK x s.b).isSome=true
 ·have c2:0<=n.G.var x:=l.2 (q.1 c);refine .r ?_
  have i:s.param x p=(⟨s.b,4,p⟩:Rs).V x:=by
   unfold Rs.param Rs.K;rw[if_pos c,s.fail_new 4 p j]
   split
   ·rfl
   ·rfl
  have a:(bQE x p n.G).a=4/\(bQE x p n.G).e=p:=by
   grind[bQE,Ns.E,bO4]
  rw[i,a.1,a.2];exact⟨fun h=>by have h:(4:Int)=0:=h;omega,rfl,rfl⟩
 have m:x ∉ n.b:=Qg;have c2: ¬0<=n.G.var x:=fun e=>m (l.1 e)
 by_cases d:(4:Int)<=s.b.length
 ·refine .r ?_
  have i:s.param x p=(⟨s.b,5,p⟩:Rs).V x:=by
   unfold Rs.param Rs.K;rw[if_pos d,if_neg c,s.fail_new 5 p j]
  have a:(bQE x p n.G).a=5/\(bQE x p n.G).e=p:=by
   unfold bQE;dsimp only;rw[if_neg c2,if_pos (show 4<=n.G.b.length by show 4<=n.b.length;rw[<-k.2];omega),bO4];trivial
  rw[i,a.1,a.2];exact⟨fun h=>by have h:(5:Int)=0:=h;omega,rfl,rfl⟩
 ·refine .l ?_
  have i:s.param x p=s.V x:=by
   grind[Rs.param,Rs.K]
  have a:bQE x p n.G={n.G with b:=n.G.b++[x]}:=by
   unfold bQE;dsimp only;rw[if_neg c2,if_neg (show ¬4<=n.G.b.length by show ¬4<=n.b.length;rw[<-k.2];omega)]
  rw[i,a];exact⟨j,rfl,bTC (n:=n.G) k m⟩
def bXW:List Tok->Ns->Ns
 |[],s=>s
 |p::r,s=>bXW r (bQE p.f p.e s)
theorem bTS(p:Tok){i:Nat}{s:Ns}(h:s.b.length=i):bQE p.f p.e s={bPI p i s with b:=(bPI p i s).b++[p.f]}:=by
 grind[bQE,bPI,bL7]
theorem bVP:∀ (l:List Tok) (i:Nat) (s:Ns),s.b.length=i->bRU l i s=bXW l s
 |[],_,_,_=>rfl
 |p::r,i,s,h=>by
  rw[bPH,<-bTS p h];exact bVP r (i+1) _ (by rw[bTS p h];grind[bOR])
theorem bWA(u:Ups T):∀ (L:Tr) (l:List Tok) (i j:Nat),Ws 16 L->NP L l->Sg T i j (ps L)->j<=T.length->Sq (jF L) (bXW l) (ps L):=by
 intro L
 induction L with
 |nil=>
  intro l i j _ d _ _;have d:l=[]:=d;subst d;exact Sq.id
 |node b o a e r _ ih=>
  intro l i j I d h t;obtain⟨y,ys,rfl,⟨s,w,c,x,z,rfl,K,M⟩,N⟩:=d;obtain⟨G,n,W⟩:=aY Ou I;have n:Ws 22 (.node s w c x z):=n
  have p:c.a=19/\x= .nil/\z= .nil:=by
   obtain⟨_,Y,Z,V,v,X⟩:=n.parts
   grind[sig,bU7]
  obtain⟨p,rfl,rfl⟩:=p
  have e:ps (.node b o a (.node s w c .nil .nil) r)=c.b::ps r:=by
   show(if a.a=6 then _ else _)=_;rw[Oh,if_neg (by simp[eO,G])];show(if c.a=6 then _ else _)++_=_;rw[Oh,if_pos (by simp[eO,p])];rfl
  rw[e]at h ⊢;have R:=List.pairwise_cons.1 (h.pw u t)
  have U:Sg T i j (ps r):=by
   obtain⟨A,q,m,C,D⟩:=h;cases q with
   |nil=>cases m
   |cons k q=>
    rw[List.map_cons,List.cons.injEq]at m;exact⟨A,q,m.2,(List.pairwise_cons.1 C).2,fun x v=>D x (Qu _ v)⟩
  have O:=(h.bt c.b Od).bd u t
  have H:Sq (fun J=>J.param c.h c.b) (bQE y.f y.e) [c.b]:=by
   grind[bX2]
  exact(H.comp Qg Qg)
theorem Sq.two{p:Int}(b:0<=p/\p<=5000):Sq (fun s=>(s.fail 4 p).fail 5 p) (fun s=>(s.E 5 p).E 4 p) [p]:=by
 refine⟨((Lin.E (e:=5) Oa b).comp (Lin.E (e:=4) Oa b)).sub Od,fun s a=>?_,fun s n a _=> .r ?_⟩
 ·have c:=s.fail_st 4 p a;have d:=(s.fail 4 p).fail_st 5 p Oa;omega
 ·rw[s.fail_new 4 p a,bO4,show(⟨s.b,4,p⟩:Rs).fail 5 p=⟨s.b,4,p⟩from if_neg (show ¬(4:Int)=0 by decide)]
  grind[Ns.E]
theorem bX4{l:Tr}{p:Int}(u:Ws 21 l)(c:0<=p/\p<=5000)(v:∀ z∈ps l,z=p):Sq (fun s=>(rsT F its l s).fail 5 p) (fun s=>nmT S FQ l (Ns.E s 5 p)) [p]:=by
 cases l with
 |nil=>exact Sq.one Oa c
 |node b o a l r=>
  obtain⟨_,G,H,i,x,y⟩:=u.parts
  by_cases k:a.a<=1
  ·have e:sig 21 a.a=some (99,99):=by simp[sig,k]
   rw[e]at i;cases i;have t:=bU7 x;have m:=bU7 y;subst t m
   by_cases j:a.a=1
   ·have q:ps (.node b o a .nil .nil:Tr)=[a.b]:=by
     show(if a.a=6 then _ else _)=_;rw[Oh,if_pos (by simp[eO,j])];rfl
    have A:=v a.b (by rw[q];exact Qs)
    have d:(fun s=>(rsT F its (.node b o a .nil .nil) s).fail 5 p)=fun s=>if ¬(bCK a.h s.b).isSome=true then(s.fail 4 p).fail 5 p else s.fail 5 p:=funext fun s=>by
     rw[jM Oa];show(rs1 F its a (aD .nil) s).fail 5 p=_
     grind[rs1,Rs.oldVar,bCK]
    have h:(fun s:Ns=>nmT S FQ (.node b o a .nil .nil) (s.E 5 p))=fun s=>if s.var a.h < 0 then(s.E 5 p).E 4 p else s.E 5 p:=funext fun s=>by
     rw[bNI Oa];show nm1 S FQ a (aD .nil) (s.E 5 p)=_
     grind[nm1,Ns.var,bL7]
    rw[d,h]
    exact Sq.ite (C:=fun s:Rs=>¬(bCK a.h s.b).isSome=true) (D:=fun n:Ns=>n.var a.h < 0) (fun _=>Iff.rfl) (fun s n w=>by
     have:=n.var_mem a.h;have:=w.1 a.h
     grind) (Sq.two c) (Sq.one Oa c)
   ·have d:(fun s=>(rsT F its (.node b o a .nil .nil) s).fail 5 p)=fun s=>s.fail 5 p:=funext fun s=>by
     rw[jM Oa];show(rs1 F its a (aD .nil) s).fail 5 p=_
     grind[rs1]
    have h:(fun s:Ns=>nmT S FQ (.node b o a .nil .nil) (s.E 5 p))=fun s=>s.E 5 p:=funext fun s=>by
     rw[bPS Oa];rfl
    rw[d,h];exact Sq.one Oa c
  grind[sig]
def wps:Tr->List Int
 | .nil=>[]
 | .node _ _ _ e r=>(mF e::(ps (lX e)++ps (qJ e)))++wps r
theorem bSQ:∀ (L:Tr) (i j:Nat),WSg T L i j->∀ p∈wps L,Bt T i j p:=by
 intro L
 induction L with
 |nil=>intro i j _ p c;cases c
 |node b o a e r _ ih=>
  rintro i j ⟨l,s,d,m,n,h,k⟩ p c;have q:=k.le;have t:=h.1;rcases List.mem_append.1 c with c|c
  ·rcases List.mem_cons.1 c with rfl|c
   ·exact⟨l,d,Oa,m⟩
   rcases List.mem_append.1 c with c|c
   ·exact⟨l,d,Oa,n p c⟩
   ·exact(h.bt p c).mono Oa q
  ·exact(ih s j k p c).mono Oa Oa
theorem bW9(C:bVA F its S FQ)(p:Ups T):∀ (L:Tr) (v w:Nat),Ws 15 L->WSg T L v w->w<=T.length->∀ i,Sq (whR F its L i) (whQ (bQP S FQ L) i) (wps L):=by
 intro L
 induction L with
 |nil=>intro _ _ _ _ _ _;exact Sq.id
 |node b o a e r _ ih=>
  intro v w V U G i;obtain⟨k,I,z,d,m,h,A⟩:=U;obtain⟨a1,n,a6⟩:=aY Ov V;have n:Ws 20 e:=n;have R:I<=T.length:=Qm A.le G;cases e with
  |nil=>simp[Ws,bK]at n
  |node be oe ae l j=>
   obtain⟨_,a9,b1,y,u,W⟩:=n.parts
   by_cases K:ae.a=7
   ·rw[K]at y;cases y;have O:k < T.length:=by have:=h.1;omega
    have hp:=p.lo k O
    have H:0<=ae.e/\ae.e<=5000:=by
     have d:ae.e=(dD T k).e:=d;omega
    have D:=bZP C p W h R
    have M:Sq (fun s=>rsT F its j ((rsT F its l s).S i ae.e)) (fun s=>nmT S FQ (.node be oe ae l j) (if 4<=i then s.E 5 ae.e else s)) (ae.e::(ps l++ps j)):=by
     have e0:(fun s=>nmT S FQ (.node be oe ae l j) (if 4<=i then s.E 5 ae.e else s))=fun s=>nmT S FQ j (nmT S FQ l (if 4<=i then s.E 5 ae.e else s)):=(by grind[bPS]);rw[e0]
     have Y:∀ q∈ps j,ae.e < q:=fun q c=>by
      obtain⟨J,z1,Z,rfl⟩:=h.bt q c;rw[show ae.e=(dD T k).e from d];exact p.up k J Oa Oa
     by_cases hi:4<=i
     ·simp only[Rs.S,if_pos hi];exact((bX4 u H (fun q c=>(m q c).t d.symm)).comp D Qg).sub Qg
     ·simp only[Rs.S,if_neg hi]
      have N:Sq (rsT F its l) (nmT S FQ l) (ps l):=bVF C l 21 u (fun q c=>by rw[(m q c).t d.symm];exact H) (by
       have:(ps l).length<=1:=by
        cases l with
        |nil=>trivial
        |node b3 o3 a3 l3 r3=>
         obtain⟨_,a7,a8,a5,a2,a4⟩:=u.parts
         grind[sig,ps,bU7]
       rcases hps:ps l with _|⟨J,_|⟨Z,zs⟩⟩
       ·exact .nil
       ·simp
       grind)
      exact(N.comp D (fun q c x t=>by
       rw[(m q c).t d.symm];exact Y x t)).sub Qg
    exact M.comp Qg (fun q c x t=>by
     have X:Bt T v I q:=by
      rcases List.mem_cons.1 c with rfl|c
      ·exact⟨k,z,Oi h.1,d⟩
      rcases List.mem_append.1 c with c|c
      ·exact⟨k,z,Oi h.1,m q c⟩
      ·exact(h.bt q c).mono Oa Oa
     exact X.lt p (bSQ _ _ _ A x t) Oa G)
   grind[sig]
def fnB(F:cM)(its:List Tr)(l p q:Tr)(s:Rs):Rs:=rsT F its q (whR F its (bCF p) 0 (jF (bCF l) s.clear))
theorem bS1(t:Tr):unl t=bCF t:=by rfl
theorem Lin.clr{P:List Int}:Lin (fun s=>{s with b:=[]}) P:=⟨Od,fun _ _=>rfl,fun s h=>by
 show s.key=min s.key (1000000:Int);have a:s.key<=1000000:=bOS h;omega,fun _=> .l rfl⟩
theorem bYB{s:Nat}(c:s=3\/s=4\/s=5\/s=6\/s=8){t:Tr}(h:Ws s t):ps (bCF t)=ps t:=by
 rcases h.lst c with rfl|⟨b,o,a,l,rfl,d,_⟩
 ·rfl
 ·show ps l=if a.a=6 then _ else _
  grind[eO,ps]
theorem cAX(w:bVA F its S FQ)(c:Ups T){l p q:Tr}{d:List Tok}{A i o j:Nat}(z:Ws 6 l)(J:Ws 5 p)(K:Ws 4 q)(N:NP (unl l) d)(v:Sg T A i (ps l))(h:WSg T (bCF p) i o)(k:Sg T o j (ps q))(m:j<=T.length):
 Sq (fnB F its l p q) (fnQ d (bQP S FQ (unl p)) (nmT S FQ q)) (ps l++wps (bCF p)++ps q):=by
 have t:o<=T.length:=Qm k.1 m;have D:i<=T.length:=Qm h.le t;have C:=bYB Ou z
 have H:Sq (jF (bCF l)) (bXW d) (ps l):=by
  rw[<-C];exact bWA c (bCF l) d A i (z.elems Oa) Qi Qh D
 have I:=bW9 (F:=F) (its:=its) (S:=S) (FQ:=FQ) w c (bCF p) i o (J.elems Oa) h t 0;have G:=bZP w c K k m
 have r:=(H.comp I (fun x a y n=>(v.bt x a).lt c (bSQ _ _ _ h y n) Oa t)).comp G (fun x a y n=>by
  rcases List.mem_append.1 a with a|a
  ·exact((v.bt x a).mono Ol h.le).lt c (k.bt y n) Oa m
  ·exact(bSQ _ _ _ h x a).lt c (k.bt y n) Oa m)
 have e:fnQ d (bQP S FQ (unl p)) (nmT S FQ q)=fun s=>(fun s=>nmT S FQ q (whQ (bQP S FQ (bCF p)) 0 (bXW d s))) ((fun s:Ns=>{s with b:=[]}) s):=(by grind[fnQ,bVP,bS1]);refine⟨?_,fun s u=>r.st s.clear u,fun s M u _=>?_⟩
 ·rw[e];exact(Lin.clr.comp (P:=[]) r.lin).sub Od
 ·have L:=r.run s.clear {M with b:=[]} u ⟨fun x=>by simp[Rs.clear,bCK],rfl⟩;rw[e];exact L
end
section
def bNK(x:ByteArray):List Tr->Int->Option Int
 |[],_=>none
 |e::r,i=>if eI e=x then some i else bNK x r (i+1)
theorem bTU(x:ByteArray):∀ (L:Tr) (i:Nat) (F0:cM),bCK x (gaF L i F0)=(bCK x F0).or (bNK x (toL L) i):=by
 intro L
 induction L with
 |nil=>grind[F0,gaF,toL,bNK]
 |node b o a e r _ ih=>
  intro i F0;have j:((i+1:Nat):Int)=(i:Int)+1:=Oa
  show bCK x (gaF r (i+1) (if(bCK (eI e) F0).isSome=true then F0 else put (eI e) i F0))=(bCK x F0).or (if eI e=x then some (i:Int)else bNK x (toL r) ((i:Int)+1));rw[ih,j]
  by_cases c:(bCK (eI e) F0).isSome=true
  ·grind[eI,Option.isSome_iff_exists]
  ·rw[if_neg c]
   by_cases d:eI e=x
   ·rw[if_pos d,d,lU];rw[d]at c;cases h:bCK x F0 with
    |none=>rfl
    |some v=>grind
   grind[kX]
def itL:Tr->List (ByteArray × Int)
 | .nil=>[]
 | .node _ _ _ e r=>(eI e,if bN e=16 then 1 else 2)::itL r
theorem bZW(x:ByteArray):∀ (L:Tr) (Y R i:Nat),Ws 18 L->
 (bNK x (toL L) i=none/\bL8 x 1 (itL L) Y= -1/\bL8 x 2 (itL L) R= -1)\/
 ∃ (j:Nat) (e:Tr),bNK x (toL L) i=some ((i+j:Nat):Int)/\(toL (gaT L Y R))[j]?=some e/\0<=lH e/\((bN e=16/\bL8 x 1 (itL L) Y=lH e/\bL8 x 2 (itL L) R= -1)\/(bN e=17/\bL8 x 2 (itL L) R=lH e/\bL8 x 1 (itL L) Y= -1)):=by
 intro L
 induction L with
 |nil=>intro Y R i _;exact .l Qj
 |node b o a e r _ ih=>
  intro Y R i A;obtain⟨_,z,t⟩:=aY Ot A;obtain⟨G,u⟩:=uR z;have w:((i:Nat):Int)+1=((i+1:Nat):Int):=Oa
  have C:((Y:Nat):Int)+1=((Y+1:Nat):Int):=Oa
  have D:((R:Nat):Int)+1=((R+1:Nat):Int):=Oa
  by_cases d:eI e=x
  ·refine .r ⟨0,if bN e=16 then iX e Y else iX e R,by simp[toL,bNK,d],?_,?_,?_⟩
   ·unfold gaT
    split<;>rfl
   ·split
    ·grind[qP]
    grind[qP]
   ·by_cases c:bN e=16
    ·rw[if_pos c,jB,qP u];exact .l ⟨c,by simp[itL,bL8,d,c],by simp[itL,bL8,d,c]⟩
    ·rw[if_neg c,jB,qP u];exact .r ⟨Oa,by simp[itL,bL8,d,c],by simp[itL,bL8,d,c]⟩
  ·have v:bNK x (toL (.node b o a e r)) i=bNK x (toL r) ((i+1:Nat):Int):=by rw[<-w];exact if_neg d
   by_cases c:bN e=16
   ·have p:bL8 x 1 (itL (.node b o a e r)) Y=bL8 x 1 (itL r) ((Y+1:Nat):Int):=by simp[itL,bL8,d,c]
    have q:bL8 x 2 (itL (.node b o a e r)) R=bL8 x 2 (itL r) (R:Int):=by simp[itL,bL8,d,c]
    have s:toL (gaT (.node b o a e r) Y R)=iX e Y::toL (gaT r (Y+1) R):=by
     have n:gaT (.node b o a e r) Y R= .node b o a (iX e Y) (gaT r (Y+1) R):=if_pos c;rw[n];rfl
    rw[v,p,q,s];rcases ih (Y+1) R (i+1) t with h|⟨j,k,y,l,m⟩
    ·grind
    ·exact .r ⟨j+1,k,Qg,l,m⟩
   ·have p:bL8 x 1 (itL (.node b o a e r)) Y=bL8 x 1 (itL r) (Y:Int):=by simp[itL,bL8,d,c]
    have q:bL8 x 2 (itL (.node b o a e r)) R=bL8 x 2 (itL r) ((R+1:Nat):Int):=by simp[itL,bL8,d,c]
    have s:toL (gaT (.node b o a e r) Y R)=iX e R::toL (gaT r Y (R+1)):=by
     have n:gaT (.node b o a e r) Y R= .node b o a (iX e R) (gaT r Y (R+1)):=if_neg c;rw[n];rfl
    rw[v,p,q,s];rcases ih Y (R+1) (i+1) t with h|⟨j,k,y,l,m⟩
    ·grind
    ·exact .r ⟨j+1,k,Qg,l,m⟩
def fq:Tr->Nat × Nat
 | .nil=>(0,0)
 | .node _ _ _ l r=>(aD l,aD (lX r))
def fqL(t:Tr):List (Nat × Nat):=(aU2 (fC t)).map fq
theorem bZT{t:Tr}(n:Ws 8 t):bVA (dB t) (fC t) (itL (bCF t)) (fqL t):=by
 have k:=n.elems Oa
 have key:∀ x,fP (dB t) (fC t) x=(bNK x (toL (bCF t)) 0).bind fun p=>(fC t)[p.toNat]?:=fun x=>by
  unfold fP dB;rw[bTU];rfl
 refine⟨fun x=>?_,fun x=>?_⟩
 ·unfold fY;rw[key];rcases bZW x (bCF t) 0 0 0 k with⟨d,h,_⟩|⟨j,e,d,h,m,c⟩
  ·grind
  ·have d:bNK x (toL (bCF t)) 0=some ((0+j:Nat):Int):=d;have h:(fC t)[j]?=some e:=h;rw[d];simp only[Option.bind_some,Nat.zero_add,Int.toNat_natCast,h];cases e with
   |nil=>rcases c with⟨c,_⟩|⟨c,_⟩<;>cases c
   |node b o a l r=>
    rcases c with⟨c,i,_⟩|⟨c,_,i⟩
    ·have c:a.a=16:=c
     grind
    ·have c:a.a=17:=c
     grind
 ·unfold eK;rw[key];rcases bZW x (bCF t) 0 0 0 k with⟨d,_,h⟩|⟨j,e,d,h,m,c⟩
  ·grind
  ·have d:bNK x (toL (bCF t)) 0=some ((0+j:Nat):Int):=d;have h:(fC t)[j]?=some e:=h;rw[d];simp only[Option.bind_some,Nat.zero_add,Int.toNat_natCast,h];cases e with
   |nil=>rcases c with⟨c,_⟩|⟨c,_⟩<;>cases c
   |node b o a l r=>
    rcases c with⟨c,_,i⟩|⟨c,i,_⟩
    ·have c:a.a=16:=c
     grind
    ·have q:bL8 x 2 (itL (bCF t)) 0=a.c:=i;obtain⟨s,u,v⟩:=aLB (bCF t) 0 0 _ k Qg c;have c:a.a=17:=c
     grind[aU2,fC,fqL,fq]
variable {T:List Tok}
theorem Sq.two'{p:Int}(a:0<=p/\p<=5000):Sq (fun s=>(s.fail 4 p).fail 5 p) (fun s=>(s.E 4 p).E 5 p) [p]:=by
 grind[Ns.E,Lin.E,comp,sub,Sq.two,st,bO4]
theorem bVG(a b:Prop)[Decidable a][Decidable b]{p:Int}(e:0<=p/\p<=5000):Sq (fun s=>if b then(if a then s.fail 4 p else s).fail 5 p else if a then s.fail 4 p else s) (fun s=>if b then(if a then s.E 4 p else s).E 5 p else if a then s.E 4 p else s) [p]:=by
 by_cases d:a
 ·by_cases c:b
  ·grind[Sq.two']
  ·simp only[if_pos d,if_neg c];exact Sq.one Oa e
 ·by_cases c:b
  ·simp only[if_neg d,if_pos c];exact Sq.one Oa e
  ·simp only[if_neg d,if_neg c];exact Sq.id
def CK(g:Ns->Ns)(c:Int):Prop:=c<=1000000/\∀ s,okF s.a s.e->okF (g s).a (g s).e/\(g s).key=min s.key c
theorem CK.id:CK (fun s=>s) 1000000:=⟨Oa,fun s h=>⟨h,by have:s.key<=1000000:=bOS h;grind⟩⟩
theorem CK.E{e p:Int}(a:0 < e/\e < 8)(b:0<=p/\p<=5000):CK (fun s=>s.E e p) (p*8+e):=⟨Oa,fun s h=>⟨(bMR h a b).1,(bMR h a b).2.1⟩⟩
theorem CK.comp{f g:Ns->Ns}{c d:Int}(h:CK f c)(k:CK g d):CK (fun s=>g (f s)) (min c d):=⟨Oi h.1,fun s b=>by
 obtain⟨a,e⟩:=h.2 s b;obtain⟨i,j⟩:=k.2 _ a;simp[*]⟩
theorem CK.ite{f g:Ns->Ns}(C:Prop)[Decidable C](h:∃ c,CK f c)(k:∃ c,CK g c):∃ c,CK (fun s=>if C then f s else g s) c:=by
 by_cases a:C
 ·simp[*]
 simp[*]
def gI(Y R:Nat)(D:List NQ)(x:NQ)(s:Ns):Ns:=
 let s1:=if(D.any fun d=>decide (d.s=x.s))=true then s.E 4 x.at_ else s
 if x.d=1 then(if x.n < 1\/64 < x.n then(if 6<=Y then s1.E 5 x.at_ else s1).E 5 x.mid else if 6<=Y then s1.E 5 x.at_ else s1)
 else if 8<=R then s1.E 5 x.at_ else s1
theorem bU8(s:Ns)(e p:Int)(a:e≠0):(s.E e p).E e p=s.E e p:=by
 grind[Ns.E]
theorem bV0(x:NQ):∀ (D:List NQ) (s:Ns),bP8 x D s=if(D.any fun d=>decide (d.s=x.s))=true then s.E 4 x.at_ else s
 |[],s=>by rfl
 |d::r,s=>by
  unfold bP8;rw[bV0 x r]
  grind[bU8]
abbrev Zs:=List (NQ × Option (Ns->Ns))
def bXI:Zs->List NQ->Nat->Nat->Ns->Ns
 |[],_,_,_,s=>s
 |(x,_)::Z,D,Y,R,s=>bXI Z (D++[x]) (if x.d=1 then Y+1 else Y) (if x.d=1 then R else R+1) (gI Y R D x s)
def bXK:Zs->Ns->Ns
 |[],s=>s
 |(_,some G)::Z,s=>bXK Z (G s)
 |(_,none)::Z,s=>bXK Z s
def aUM:Zs->List NQ->Nat->Nat->Ns->Ns
 |[],_,_,_,s=>s
 |(x,some G)::Z,D,Y,R,s=>aUM Z (D++[x]) (if x.d=1 then Y+1 else Y) (if x.d=1 then R else R+1) (G (gI Y R D x s))
 |(x,none)::Z,D,Y,R,s=>aUM Z (D++[x]) (if x.d=1 then Y+1 else Y) (if x.d=1 then R else R+1) (gI Y R D x s)
theorem bVT:∀ (N:List NQ) (I:List Int) (Z:Zs) (D:List NQ) (t:Is),N=Z.map (·.1)->I.length=N.length->(bNJ I N D t).s=bXI Z D t.A.length t.F.length t.s
 |[],[],[],_,_,_,_=>rfl
 |x::N,k::I,(y,o)::Z,D,t,h,hl=>by
  simp only[List.map_cons,List.cons.injEq]at h;obtain⟨rfl,h⟩:=h
  have e:(bNZ k x (bP8 x D t.s) t).s=gI t.A.length t.F.length D x t.s:=by
   grind[bNZ,gI,bV0]
  show(bNJ I N (D++[x]) (bNZ k x (bP8 x D t.s) t)).s=bXI Z (D++[x]) _ _ (gI t.A.length t.F.length D x t.s);rw[bVT N I Z (D++[x]) _ h Qg,e]
  grind[bNZ]
 |[],_::_,_,_,_,_,hl=>by simp at hl
 |_::_,[],_,_,_,_,hl=>by simp at hl
 |[],[],_::_,_,_,h,_=>by simp at h
 |_::_,_::_,[],_,_,h,_=>by simp at h
def zOk(z:NQ × Option (Ns->Ns)):Prop:=0<=z.1.at_/\z.1.at_<=5000/\(z.1.d=1->0<=z.1.mid/\z.1.mid<=5000)/\∀ G,z.2=some G->∃ c,CK G c
theorem bXH:∀ (Z:Zs) (D:List NQ) (Y R:Nat),(∀ H∈Z,zOk H)->∃ a b,CK (bXI Z D Y R) a/\CK (bXK Z) b/\CK (aUM Z D Y R) (min a b)
 |[],_,_,_,_=>⟨_,_,CK.id,CK.id,by rw[Int.min_self];exact CK.id⟩
 |(x,o)::Z,D,Y,R,h=>by
  obtain⟨a,b,k,l,m⟩:=bXH Z (D++[x]) (if x.d=1 then Y+1 else Y) (if x.d=1 then R else R+1) Qg;obtain⟨A,C,q,r⟩:=h (x,o) Qs;dsimp only at A C q r
  have u:∃ c,CK (gI Y R D x) c:=by
   have w4:∃ c,CK (fun s=>s.E 4 x.at_) c:=⟨_,CK.E Oa Oa⟩;have t:∃ c,CK (fun s=>s.E 5 x.at_) c:=⟨_,CK.E Oa Oa⟩;have j:∃ c,CK (fun s=>s) c:=⟨_,CK.id⟩;obtain⟨c1,p⟩:=CK.ite ((D.any fun d=>decide (d.s=x.s))=true) w4 j;obtain⟨c2,w⟩:=CK.ite (6<=Y) t j;obtain⟨c3,y⟩:=CK.ite (8<=R) t j
   by_cases v:x.d=1
   ·obtain⟨c4,z⟩:=CK.ite (x.n < 1\/64 < x.n) ⟨x.mid*8+5,CK.E (e:=5) Oa (q v)⟩ j;have e:gI Y R D x=fun s=>(fun s=>if x.n < 1\/64 < x.n then s.E 5 x.mid else s) ((fun s=>if 6<=Y then s.E 5 x.at_ else s) ((fun s=>if(D.any fun d=>decide (d.s=x.s))=true then s.E 4 x.at_ else s) s)):=(by grind[gI]);rw[e];exact⟨_,(p.comp w).comp z⟩
   ·have e:gI Y R D x=fun s=>(fun s=>if 8<=R then s.E 5 x.at_ else s) ((fun s=>if(D.any fun d=>decide (d.s=x.s))=true then s.E 4 x.at_ else s) s):=(by grind[gI]);rw[e];exact⟨_,p.comp y⟩
  obtain⟨c,i⟩:=u;cases o with
  |none=>exact⟨min c a,b,i.comp k,l,by
    have:=i.comp m;rw[<-Int.min_assoc]at this;exact this⟩
  |some G=>
   obtain⟨d,n⟩:=r G rfl;refine⟨min c a,min d b,i.comp k,n.comp l,?_⟩;have:=(i.comp n).comp m;have e:min (min c d) (min a b)=min (min c a) (min d b):=Oa
   rw[e]at this;exact this
theorem bVU(x:ByteArray):∀ (A B:List Tr) (i:Nat),bNK x (A++B) i=(bNK x A i).or (bNK x B ((i+A.length:Nat):Int))
 |[],B,i=>by rfl
 |e::A,B,i=>by
  have a:((i:Nat):Int)+1=((i+1:Nat):Int):=Oa
  show(if eI e=x then some (i:Int)else bNK x (A++B) ((i:Int)+1))=(if eI e=x then some (i:Int)else bNK x A ((i:Int)+1)).or _
  split
  ·rfl
  ·rw[a,bVU x A B (i+1)]
   grind
theorem bTY(x:ByteArray):∀ (A:List Tr) (i:Nat),(bNK x A i=none/\∀ e∈A,eI e≠x)\/∃ k:Nat,bNK x A i=some (k:Int)/\k < i+A.length/\∃ e∈A,eI e=x
 |[],i=> .l ⟨rfl,Od⟩
 |e::A,i=>by
  have a:((i:Nat):Int)+1=((i+1:Nat):Int):=Oa
  by_cases h:eI e=x
  ·exact .r ⟨i,if_pos h,Od,e,Od,h⟩
  ·have b:bNK x (e::A) i=bNK x A ((i+1:Nat):Int):=by rw[<-a];exact if_neg h
   rw[b];rcases bTY x A (i+1)with⟨h1,h2⟩|⟨k,h1,h2,u,h3,h4⟩
   ·grind
   grind
def NIz(S:List (ByteArray × Int))(FQ:List (Nat × Nat)):Tr->Zs->Prop
 | .nil,Z=>Z=[]
 | .node _ _ _ e r,Z=>∃ x o Z',Z=(x,o)::Z'/\(∃ b o2 a l q,e= .node b o2 a l q/\x.at_=a.b/\x.s=a.h/\((a.a=16/\x.d=1/\x.n=a.g/\x.mid=a.e/\o=none)
  \/(a.a=17/\x.d=2/\∃ b3 o3 a3 p bd,q= .node b3 o3 a3 p bd/\NP (unl l) x.g/\o=some (fnQ x.g (bQP S FQ (unl p)) (nmT S FQ bd)))))/\NIz S FQ r Z'
theorem bQG.le:∀ {L:Tr} {i j:Nat},bQG T L i j->i<=j
 | .nil,_,_,h=>h
 | .node _ _ _ _ _,_,_,⟨k,⟨_,_,_,_,_,_,h⟩,h2⟩=>by
  have:=bQG.le h2;rcases h with⟨_,d,e,h⟩|⟨_,_,_,_,_,_,d,e,m,_,l,_,a,b,c⟩
  ·omega
  ·have:=a.1;have:=b.le;have:=c.1;omega
theorem cB4{ps:List Tok}{ws:List (Int × (Ns->Ns))}{g:Ns->Ns}{P:List Int}(h:Lin (fnQ ps ws g) P):CK (fnQ ps ws g) (fnQ ps ws g ⟨[],0,0,[]⟩).key:=⟨bOS (h.ok _ Oy),fun s a=>⟨h.ok s a,h.key s a⟩⟩
theorem bX3{F:cM}{its:List Tr}{S:List (ByteArray × Int)}{FQ:List (Nat × Nat)}(hN:bVA F its S FQ)(t:Ups T)(E:List Tr)(hF:∀ x,bCK x F=bNK x E 0):
 ∀ (L:Tr) (Z:Zs) (D:List NQ) (j:List Tr) (Y R p C:Nat),Ws 18 L->bQG T L p C->C<=T.length->NIz S FQ L Z->E=j++toL L->D.map (·.s)=j.map eI->
  ∃ P,Sq (aAC F its (gaT L Y R) j.length) (aUM Z D Y R) P/\(∀ a6∈P,Bt T p C a6)/\∀ a2∈Z,zOk a2:=by
 intro L
 induction L with
 |nil=>
  intro Z D j Y R p C _ _ _ W _ _;have W:Z=[]:=W;subst W;exact⟨[],Sq.id,Od,Od⟩
 |node b o a0 e r _ ih=>
  intro Z D j Y R p C hw hs V W hE hD;obtain⟨a7,h3,h7⟩:=aY Ot hw;have h3:Ws 7 e:=h3;obtain⟨x,og,J,rfl,⟨k,m,a,l,q,rfl,x1,x2,hx⟩,h9⟩:=W;obtain⟨v,⟨_,_,_,_,_,he,hi⟩,K⟩:=hs;simp only[BT.node.injEq]at he;obtain⟨rfl,rfl,rfl,rfl,rfl⟩:=he;have h2:v<=T.length:=Qm K.le V;have k0:E=(j++[(BT.node k m a l q:Tr)])++toL r:=by rw[hE];simp[toL]
  have k4:(D++[x]).map (·.s)=(j++[(BT.node k m a l q:Tr)]).map eI:=by simp[hD,x2,eI]
  have b1:(bCK a.h F).getD 0=(j.length:Int)↔¬(D.any fun d=>decide (d.s=x.s))=true:=by
   have k7:bNK a.h (j++toL (.node b o a0 (.node k m a l q) r)) 0=(bNK a.h j ((0:Nat):Int)).or (bNK a.h (toL (.node b o a0 (.node k m a l q) r)) ((0+j.length:Nat):Int)):=bVU a.h j _ 0;rw[hF,hE,k7]
   have a9:(D.any fun d=>decide (d.s=x.s))=true↔∃ u∈j,eI u=a.h:=by
    rw[List.any_eq_true];constructor
    ·rintro⟨d,hd,h⟩;have:d.s∈D.map (·.s):=Qg
     grind
    ·rintro⟨u,i,h⟩;have:eI u∈j.map eI:=Qg
     grind
   grind[bNK,toL,eI,bTY]
  have b6:∀ (s:Rs) (a5:Int),s.R F {a with c:=a5} j.length=if(D.any fun d=>decide (d.s=x.s))=true then s.fail 4 a.b else s:=(by grind[Rs.R])
  rcases hi with⟨k9,O,k2,i1,i2,i3,M,N⟩|⟨k8,x3,y3,z3,p3,q3,O,k2,k3,i1,i2,i3,M,N,i6⟩
  ·obtain⟨_,y1,y2,y3,rfl⟩:=hx.resolve_right (fun h=>by have:=h.1;omega);obtain⟨P,g1,U,g9⟩:=ih J (D++[x]) (j++[(BT.node k m a l q:Tr)]) (Y+1) R v C h7 K V h9 k0 k4;have y:Bt T p v a.b:=⟨O,i1,Oa,M⟩;have a3:Bt T p v a.e:=⟨k2,Oa,i3,N⟩;have A:=y.bd t h2;have h8:=a3.bd t h2
   have b5:a.b < a.e:=by
    rw[M,N];exact t.up O k2 i2 Oa
   have H:=bVG ((D.any fun d=>decide (d.s=x.s))=true) (6<=Y) A
   have h6:Sq (fun s=>if a.g < 1\/64 < a.g then s.fail 5 a.e else s) (fun s=>if a.g < 1\/64 < a.g then s.E 5 a.e else s) [a.e]:=by
    by_cases c:a.g < 1\/64 < a.g
    ·simp only[if_pos c];exact Sq.one Oa h8
    ·simp only[if_neg c];exact Sq.id
   have h0:=H.comp h6 Qg;have hg:gaT (.node b o a0 (.node k m a l q) r) Y R= .node b o a0 (.node k m {a with c:=(Y:Int)} l q) (gaT r (Y+1) R):=if_pos k9;have e1:aAC F its (gaT (.node b o a0 (.node k m a l q) r) Y R) j.length=fun s=>aAC F its (gaT r (Y+1) R) (j++[(BT.node k m a l q:Tr)]).length ((fun s=>if a.g < 1\/64 < a.g then s.fail 5 a.e else s) ((fun s=>if 6<=Y then(if(D.any fun d=>decide (d.s=x.s))=true then s.fail 4 a.b else s).fail 5 a.b else if(D.any fun d=>decide (d.s=x.s))=true then s.fail 4 a.b else s) s)):=(by grind[aAC,gaT,itR,Rs.arr,Rs.six,mH]);have e2:aUM ((x,none)::J) D Y R=fun s=>aUM J (D++[x]) (Y+1) R ((fun s=>if a.g < 1\/64 < a.g then s.E 5 a.e else s) ((fun s=>if 6<=Y then(if(D.any fun d=>decide (d.s=x.s))=true then s.E 4 a.b else s).E 5 a.b else if(D.any fun d=>decide (d.s=x.s))=true then s.E 4 a.b else s) s)):=(by grind[aUM,gI]);rw[e1,e2];refine⟨_,h0.comp g1 (fun u i a1 X=>?_),fun u i=>?_,fun a2 hz=>(List.mem_cons.1 hz).elim (fun e=>e ▸ ⟨x1 ▸ A.1,x1 ▸ A.2,fun _=>y3 ▸ h8,fun G e=>by cases e⟩) (g9 a2)⟩
   ·have h4:Bt T p v u:=by
     grind
    exact h4.lt t (U a1 X) Oa V
   ·rcases List.mem_append.1 i with i|i
    ·rcases List.mem_append.1 i with i|i
     ·rw[List.mem_singleton.1 i];exact y.mono Oa K.le
     ·rw[List.mem_singleton.1 i];exact a3.mono Oa K.le
    ·exact(U u i).mono Oa Oa
  ·rcases hx with⟨h,_⟩|⟨_,y1,z,I,w,n,bd,rfl,y2,rfl⟩
   ·omega
   simp only[BT.node.injEq]at i1;obtain⟨rfl,rfl,rfl,rfl,rfl⟩:=i1;obtain⟨P,g1,U,g9⟩:=ih J (D++[x]) (j++[(BT.node k m a l (.node z I w n bd):Tr)]) Y (R+1) v C h7 K V h9 k0 k4;obtain⟨hl,x4,y4,z4,p4,q4,e4,a8,k6,k5⟩:=oO h3 k8;simp only[BT.node.injEq]at e4;obtain⟨rfl,rfl,rfl,rfl,rfl⟩:=e4;have b4:=i6.1;have b3:=N.le;have b2:=M.1;have y:Bt T p (O+1) a.b:=⟨O,i2,Oa,i3⟩;have A:=y.bd t Oa;have H:=bVG ((D.any fun d=>decide (d.s=x.s))=true) (8<=R) A;have hB:=cAX (F:=F) (its:=its) hN t hl k6 k5 y2 M N i6 h2
   have h5:∀ u∈ps l++wps (bCF n)++ps bd,Bt T (O+1) v u:=fun u i=>by
    rcases List.mem_append.1 i with i|i
    ·rcases List.mem_append.1 i with i|i
     ·exact(M.bt u i).mono Oa Oa
     ·exact(bSQ _ _ _ N u i).mono Oa Oa
    ·exact(i6.bt u i).mono Oa Oa
   have h0:=H.comp hB (fun u i a1 X=>by rw[List.mem_singleton.1 i];exact y.lt t (h5 a1 X) Oa h2);have a4: ¬a.a=16:=Oa
   have hg:gaT (.node b o a0 (.node k m a l (.node z I w n bd)) r) Y R= .node b o a0 (.node k m {a with c:=(R:Int)} l (.node z I w n bd)) (gaT r Y (R+1)):=if_neg a4
   have e1:aAC F its (gaT (.node b o a0 (.node k m a l (.node z I w n bd)) r) Y R) j.length=fun s=>aAC F its (gaT r Y (R+1)) (j++[(BT.node k m a l (.node z I w n bd):Tr)]).length (fnB F its l n bd ((fun s=>if 8<=R then(if(D.any fun d=>decide (d.s=x.s))=true then s.fail 4 a.b else s).fail 5 a.b else if(D.any fun d=>decide (d.s=x.s))=true then s.fail 4 a.b else s) s)):=funext fun s=>by
    rw[hg,List.length_append];show aAC F its (gaT r Y (R+1)) (j.length+1) (itR F its (.node k m {a with c:=(R:Int)} l (.node z I w n bd)) j.length s)=_;have e:itR F its (.node k m {a with c:=(R:Int)} l (.node z I w n bd)) j.length s=fnB F its l n bd ((s.R F {a with c:=(R:Int)} j.length).few {a with c:=(R:Int)}):=if_neg a4
    grind[Rs.few]
   have e2:aUM ((x,some (fnQ x.g (bQP S FQ (unl n)) (nmT S FQ bd)))::J) D Y R=fun s=>aUM J (D++[x]) Y (R+1) (fnQ x.g (bQP S FQ (unl n)) (nmT S FQ bd) ((fun s=>if 8<=R then(if(D.any fun d=>decide (d.s=x.s))=true then s.E 4 a.b else s).E 5 a.b else if(D.any fun d=>decide (d.s=x.s))=true then s.E 4 a.b else s) s)):=(by grind[aUM,fnQ,bQP,unl,nmT,gI]);rw[e1,e2]
   refine⟨_,h0.comp g1 (fun u i a1 X=>?_),fun u i=>?_,fun a2 hz=>(List.mem_cons.1 hz).elim (fun e=>e ▸ ⟨x1 ▸ A.1,x1 ▸ A.2,Qh,fun G e=>by
    simp only[Option.some.injEq]at e;subst e;exact⟨_,cB4 hB.lin⟩⟩) (g9 a2)⟩
   ·have h4:Bt T p v u:=by
     rcases List.mem_append.1 i with i|i
     ·rw[List.mem_singleton.1 i];exact y.mono Oa Oa
     ·exact(h5 u i).mono Oa Oa
    exact h4.lt t (U a1 X) Oa V
   ·have:=K.le;rcases List.mem_append.1 i with i|i
    ·rcases List.mem_append.1 i with i|i
     ·rw[List.mem_singleton.1 i];exact y.mono Oa Oa
     ·exact(h5 u i).mono Oa Oa
    ·exact(U u i).mono Oa Oa
theorem bUT(w:eF T)(h:cY T)(x:Ups T)(y:0 < T.length)(D:(bP T).1.a=0){Z:Zs}(hZ:NIz (itL (bCF (bP T).2)) (fqL (bP T).2) (bCF (bP T).2) Z){n:Int}(G:n=(dD T (T.length - 1)).e){c:Ns}(W:c=bXK Z (bXI Z [] 0 0 ⟨[],0,0,[]⟩)):
 ((fO (bP T).2 n).a=0/\(if bL8 rF 2 (itL (bCF (bP T).2)) 0 < 0 then c.E 4 n else c).a=0)\/((fO (bP T).2 n).a≠0/\(fO (bP T).2 n).a=(if bL8 rF 2 (itL (bCF (bP T).2)) 0 < 0 then c.E 4 n else c).a/\(fO (bP T).2 n).e=(if bL8 rF 2 (itL (bCF (bP T).2)) 0 < 0 then c.E 4 n else c).e):=by
 have J:=(bNX w h y D).1;have C:=bZT J;have X:(bP T).1.b < T.length:=(oV w h (bM1 h (bY T) 6) (bY T) (bY T) rd0 y).lt
 obtain⟨P,N,O,R⟩:=bX3 C x (toL (bCF (bP T).2)) (fun a3=>by
  unfold dB;rw[bTU];rfl) (bCF (bP T).2) Z [] [] 0 0 0 _ (J.elems Ot) (bUP w h y D) (Nat.le_of_lt X) hZ rfl rfl
 have t:0<=n/\n<=5000:=by rw[G];exact x.lo _ Oa
 have hm:Sq (fun s=>if(eK (dB (bP T).2) (fC (bP T).2) rF).isSome=true then s else s.fail 4 n) (fun s=>if bL8 rF 2 (itL (bCF (bP T).2)) 0 < 0 then s.E 4 n else s) [n]:=by
  rcases C.fn rF with⟨p,q⟩|⟨b,o,a,l,r,p,q,_⟩
  ·simp only[p,if_pos q];exact Sq.one Oa t
  ·simp only[p,if_neg (Int.not_lt.2 q)];exact Sq.id
 have U:=N.comp hm (fun a2 V a4 hq=>by
  rw[List.mem_singleton.1 hq,G];obtain⟨a1,k1,k2,rfl⟩:=O a2 V;exact x.up a1 _ Oa Oa)
 have hr:=U.run rs0 ⟨[],0,0,[]⟩ rfl ⟨fun a3=>by simp[rs0,bCK],rfl⟩;obtain⟨a,b,c1,c2,c3⟩:=bXH Z [] 0 0 R;have K:okF (0:Int) (0:Int):= .l rfl;have z:=c3.2 ⟨[],0,0,[]⟩ K;have d:=(c1.comp c2).2 ⟨[],0,0,[]⟩ K;dsimp only at d;rw[<-W]at d
 have hk:∀ u v:Ns,okF u.a u.e->okF v.a v.e->u.key=v.key->((if bL8 rF 2 (itL (bCF (bP T).2)) 0 < 0 then u.E 4 n else u).a=0/\(if bL8 rF 2 (itL (bCF (bP T).2)) 0 < 0 then v.E 4 n else v).a=0)\/((if bL8 rF 2 (itL (bCF (bP T).2)) 0 < 0 then u.E 4 n else u).a≠0/\(if bL8 rF 2 (itL (bCF (bP T).2)) 0 < 0 then u.E 4 n else u).a=(if bL8 rF 2 (itL (bCF (bP T).2)) 0 < 0 then v.E 4 n else v).a/\(if bL8 rF 2 (itL (bCF (bP T).2)) 0 < 0 then u.E 4 n else u).e=(if bL8 rF 2 (itL (bCF (bP T).2)) 0 < 0 then v.E 4 n else v).e):=fun u v H I e=>by
  split
  ·have L:=bMR (e:=4) H Oa t;have M:=bMR (e:=4) I Oa t;exact bQX L.1 M.1 (by show(u.E 4 n).key=(v.E 4 n).key;rw[L.2.1,M.2.1,e])
  ·exact bQX H I e
 have A:=hk _ _ z.1 d.1 (by rw[z.2,d.2]);have Y:fO (bP T).2 n=if(eK (dB (bP T).2) (fC (bP T).2) rF).isSome=true then aAC (dB (bP T).2) (fC (bP T).2) (gaT (bCF (bP T).2) 0 0) 0 rs0 else(aAC (dB (bP T).2) (fC (bP T).2) (gaT (bCF (bP T).2) 0 0) 0 rs0).fail 4 n:=rfl
 rw[Y];rcases hr with⟨i,j,_⟩|⟨i,j,r3⟩
 ·rcases A with⟨_,m⟩|⟨k,_⟩
  ·exact .l ⟨i,m⟩
  ·exact absurd j k
 ·rcases A with⟨k,_⟩|⟨_,m,f3⟩
  ·exact absurd (j.t k) i
  ·exact .r ⟨i,j.t m,r3.t f3⟩
end
end Go.Proofs.YtikffmloeifkpaaGreatDoor
