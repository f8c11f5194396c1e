/- Contracts. -/
import Derived.Test.YtikffmloeifkpaaGreatDoorR32
import Derived.Test.YtikffmloeifkpaaGreatDoorR34
set_option maxHeartbeats 16000000
set_option maxRecDepth 100000
namespace Go.Proofs.YtikffmloeifkpaaGreatDoor
open Go.RowKit Go.Lib Go.Deep Go.ChangeMaps Go.MapKept Tryz
section
variable {H U ns:Nat} {L C:List NQ} {A F:List Int} {Y D M B:Value} {V:List V3} {w w' w2:World}
structure Sit(ns:Nat)(L C:List NQ):Prop where
 len:C.length=L.length
 at_:∀ (i:Nat) n,L[i]?=some n->∃ s:Int,C[i]?=some {n with f:=s}/\(s < ns\/s=n.f)
theorem Sit.refl(a:Nat)(L:List NQ):Sit a L L:=⟨rfl,fun _ n h=>⟨n.f,h,.r rfl⟩⟩
theorem Sit.set(h:Sit ns L C){i:Nat}{a:NQ}(c:C[i]?=some a){s:Int}(k:s < ns):Sit ns L (C.set i {a with f:=s}):=⟨by rw[List.length_set];exact h.len,fun j n g=>by
 obtain⟨t,b,d⟩:=h.at_ j n g
 by_cases e:i=j
 ·subst e;rw[b]at c;cases c;exact⟨s,by rw[List.getElem?_set_self (List.getElem?_eq_some_iff.1 b).1],.l k⟩
 ·exact⟨t,by rw[List.getElem?_set_ne e];exact b,d⟩⟩
theorem bSP:∀ (L:List NQ) (V:List V3) (i:Nat) (a:NQ) (r:Int),L[i]?=some a->L.length=V.length->bMY (L.set i {a with f:=r}) V=(bMY L V).set (i*11+10) (Qc r)
 |b::L,u::V,0,a,r,h1,_=>by
  simp only[List.getElem?_cons_zero,Option.some.injEq]at h1;subst h1;rfl
 |b::L,u::V,i+1,a,r,h1,h2=>by
  show NdV b u++bMY (L.set i {a with f:=r}) V=(NdV b u++bMY L V).set _ _;rw[bSP L V i a r Qi Qg];have e:(NdV b u).length=11:=rfl
  grind
 |[],_,_,_,_,h1,_=>by rfl
 |b::L,[],_,_,_,_,h2=>by simp at h2
theorem bMQ.sits{a:NQ}{r:Int}:∀ {L:List NQ} {V:List V3} {i:Nat},bMQ H w L V->L[i]?=some a->bMQ H w (L.set i {a with f:=r}) V:=by
 intro L
 induction L with
 |nil=>simp
 |cons c L ih=>
  intro V i h b;cases V with
  |nil=>trivial
  |cons u V=>
   cases i with
   |zero=>
    simp only[List.getElem?_cons_zero,Option.some.injEq]at b;subst b;exact⟨⟨h.1.k,h.1.p,h.1.h⟩,h.2⟩
   |succ i=>exact⟨h.1,ih h.2 Qi⟩
structure Fz(Y B:Value)(w w':World):Prop where
 os:w'.os=w.os
 tape:w'.tape=w.tape
 output:w'.output=w.output
 size:w.1.size<=w'.1.size
 keep:∀ k,k < w.1.size->B.ownBlock≠some k->Y.ownBlock≠some k->w'.1[k]?=w.1[k]?
structure SrW(H U:Nat)(L:List NQ)(A F:List Int)(ns:Nat)(Y D M B:Value)(V:List V3)(w w':World):Prop where
 fd:FdW H U L A F ns Y D M B V w'
 fz:Fz Y B w w'
 st:∃ xs:Sl,xs.length=ns/\w'.ownsRow H 55 3 B ns (dC xs)
theorem bTJ:∀ (S:Sl) (i:Nat) (x:Int × Int),S[i]?=some x->(dC S)[i*3]?=some (Qc x.1)/\(dC S)[i*3+1]?=some (Qc x.2)/\(dC S)[i*3+2]?=some (.bool false)
 |[],_,_,h=>by simp at h
 |y::S,0,x,h=>by
  simp only[List.getElem?_cons_zero,Option.some.injEq]at h;subst h;exact⟨rfl,rfl,rfl⟩
 |y::S,i+1,x,h=>by
  obtain⟨a,b,c⟩:=bTJ S i x (by simpa using h);rw[show(i+1)*3=i*3+1+1+1 by omega];exact⟨by simpa[dC]using a,by simpa[dC]using b,by simpa[dC]using c⟩
theorem bSB(a b:Int):∀ (S:Sl) (i:Nat),i < S.length->(((dC S).set (i*3) (Qc a)).set (i*3+1) (Qc b)).set (i*3+2) (.bool false)=dC (S.set i (a,b))
 |[],_,h=>absurd h (Nat.not_lt_zero _)
 |y::S,0,_=>rfl
 |y::S,i+1,h=>by
  have:=bSB a b S i (Nat.lt_of_succ_lt_succ h);rw[show(i+1)*3=i*3+1+1+1 by omega,List.set_cons_succ,dC,dC,List.set_cons_succ,List.set_cons_succ,List.set_cons_succ,List.set_cons_succ,List.set_cons_succ,List.set_cons_succ,List.set_cons_succ,List.set_cons_succ,List.set_cons_succ,this]
theorem SrW.below(h:SrW H U L A F ns Y D M B V w w')(a:Below w'.1.size w' w2):SrW H U L A F ns Y D M B V w w2:=by
 obtain⟨g,f,c⟩:=h.st;exact⟨h.fd.below a,⟨a.os.t h.fz.os,a.tape.t h.fz.tape,a.output.t h.fz.output,Qm h.fz.size a.size,fun k b d e=>(a.block k (Nat.lt_of_lt_of_le b h.fz.size)).t (h.fz.keep k b d e)⟩,g,f,cD c (fun k b=>a.block k (bLP c b))⟩
theorem SrW.at_{ad:Option Addr}{cs:Nat}(h:SrW H U L A F ns Y D M (.slice ad ns cs) V w w')(i:0 < ns):∃ g,ad=some ⟨g,0,none⟩:=by
 obtain⟨j,f,c⟩:=h.st;rcases c.2 with⟨_,h⟩|⟨b,d,e,a,_⟩
 ·omega
 ·simp only[Value.slice.injEq]at a;exact⟨b,a.1⟩
theorem SrW.f(h:SrW H U L A F ns Y D M B V w w'){g J:Nat}(m:B= Qe g ns J){i:Nat}(hi:i < ns):∃ a b:Int,w'.cell? ⟨g,i*3,none⟩=some (Qc a)/\w'.cell? ⟨g,i*3+1,none⟩=some (Qc b)/\w'.cell? ⟨g,i*3+2,none⟩=some (.bool false)/\∀ o,w'.frozen? ⟨g,o,none⟩=false:=by
 obtain⟨d,s,n⟩:=h.st;obtain⟨x,k⟩:∃ x,d[i]?=some x:=⟨d[i]'Oa,List.getElem?_eq_getElem _⟩;obtain⟨c1,c2,c3⟩:=bTJ d i x k;rcases n.2 with⟨_,h⟩|⟨r,p,q,e,_,f,t,_,hsz,l⟩
 ·omega
 rw[m]at e;simp only[Value.slice.injEq,Option.some.injEq,Addr.mk.injEq]at e;obtain⟨⟨rfl,_⟩,_,rfl⟩:=e
 have c:∀ j,j < ns*3->w'.cell? ⟨g,j,none⟩=(dC d)[j]?:=fun j c=>by
  rw[cell_of_row _ _ _ _ _ _ f,<-l,List.getElem?_take,if_pos c];simp
 exact⟨x.1,x.2,by rw[c _ Oa];exact c1,by rw[c _ Oa];exact c2,by rw[c _ Oa];exact c3,fun o=>by simp[World.frozen?,f]⟩
theorem SrW.put(h:SrW H U L A F ns Y D M B V w w'){g J:Nat}(n:B= Qe g ns J){i:Nat}(hi:i < ns)(a b:Int):SrW H U L A F ns Y D M B V w (((w'.setCell ⟨g,i*3,none⟩ (Qc a)).setCell ⟨g,i*3+1,none⟩ (Qc b)).setCell ⟨g,i*3+2,none⟩ (.bool false)):=by
 obtain⟨j,K,v⟩:=h.st;have a3:=v;obtain⟨O,T⟩:=v;rcases T with⟨_,h⟩|⟨g2,a1,a2,l,R,r,P,Q,hsz,N⟩
 ·omega
 rw[n]at l;simp only[Value.slice.injEq,Option.some.injEq,Addr.mk.injEq]at l;obtain⟨⟨rfl,_⟩,_,rfl⟩:=l;have x:∀ k,k≠g->(((w'.setCell ⟨g,i*3,none⟩ (Qc a)).setCell ⟨g,i*3+1,none⟩ (Qc b)).setCell ⟨g,i*3+2,none⟩ (.bool false)).1[k]?=w'.1[k]?:=fun k f=>(Om f).t ((Om f).t (Om f));have off:∀ {k:Nat} {G:Array Value} {t:TypeId},w'.1[k]?=some (.cells G t (0,0))->t≠55->(((w'.setCell ⟨g,i*3,none⟩ (Qc a)).setCell ⟨g,i*3+1,none⟩ (Qc b)).setCell ⟨g,i*3+2,none⟩ (.bool false)).1[k]?=w'.1[k]?:=fun f m=>x _ (bEF f r m)
 have o:∀ {y z:Nat} {e:TypeId} {E:Value} {j:List Value},w'.ownsRow H e z E y j->e≠55->(((w'.setCell ⟨g,i*3,none⟩ (Qc a)).setCell ⟨g,i*3+1,none⟩ (Qc b)).setCell ⟨g,i*3+2,none⟩ (.bool false)).ownsRow H e z E y j:=fun s m=>cD s (fun k S=>by
  obtain⟨⟨c,d⟩,_⟩:=bEH s S;exact off d m)
 have X:w'.1.size<=(((w'.setCell ⟨g,i*3,none⟩ (Qc a)).setCell ⟨g,i*3+1,none⟩ (Qc b)).setCell ⟨g,i*3+2,none⟩ (.bool false)).1.size:=by simp[World.setCell]
 have q:(((w'.setCell ⟨g,i*3,none⟩ (Qc a)).setCell ⟨g,i*3+1,none⟩ (Qc b)).setCell ⟨g,i*3+2,none⟩ (.bool false)).ownsRow H 55 3 B ns (dC (j.set i (a,b))):=by
  rw[<-bSB a b j i Oa];refine⟨by simp[O],.r ⟨g,J,_,n,R,aM _ (aM _ (aM _ r)),P,Q,by simp[hsz],?_⟩⟩;rw[Array.toList_setIfInBounds,Array.toList_setIfInBounds,Array.toList_setIfInBounds,List.take_set,List.take_set,List.take_set,N]
 obtain⟨vI,Z,u⟩:=h.fd.prog
 refine⟨⟨⟨vI,Z,(off u Ob).t u⟩,o h.fd.nodes Ob,o h.fd.arrs Ob,o h.fd.fns Ob,⟨_,q⟩,h.fd.c.move (fun k W=>by
  obtain⟨⟨c,d⟩,_⟩:=h.fd.c.typ W;rcases d with d|d
  ·exact off d Ob
  ·exact off d Ob)⟩,⟨h.fz.os,h.fz.tape,h.fz.output,Qm h.fz.size X,fun k f p I=>(x k (fun e=>p (by rw[n];simp[Value.ownBlock,e]))).t (h.fz.keep k f p I)⟩,_,by rw[List.length_set];exact K,q⟩
theorem SrW.node(h:SrW H U L A F ns Y D M B V w w'){i:Nat}{a:NQ}(hi:L[i]?=some a)(r:Int){g J:Nat}(q:Y= Qe g L.length J):
 (∀ o,w'.frozen? ⟨g,o,none⟩=false)/\SrW H U (L.set i {a with f:=r}) A F ns Y D M B V w (w'.setCell ⟨g,i*11+10,none⟩ (Qc r)):=by
 have a3:=(List.getElem?_eq_some_iff.1 hi).1;obtain⟨R,hr⟩:=h.fd.nodes;rcases hr with⟨_,hn⟩|⟨g2,a2,K,m,X,p,S,W,hsz,Q⟩
 ·omega
 rw[q]at m;simp only[Value.slice.injEq,Option.some.injEq,Addr.mk.injEq]at m;obtain⟨⟨rfl,_⟩,_,rfl⟩:=m;have y:∀ k,k≠g->(w'.setCell ⟨g,i*11+10,none⟩ (Qc r)).1[k]?=w'.1[k]?:=fun k d=>Om d;have off:∀ {k:Nat} {I:Array Value} {t:TypeId},w'.1[k]?=some (.cells I t (0,0))->t≠73->(w'.setCell ⟨g,i*11+10,none⟩ (Qc r)).1[k]?=w'.1[k]?:=fun d n=>y _ (bEF d p n)
 have j:∀ {z E:Nat} {e:TypeId} {G:Value} {l:List Value},w'.ownsRow H e E G z l->e≠73->(w'.setCell ⟨g,i*11+10,none⟩ (Qc r)).ownsRow H e E G z l:=fun u n=>cD u (fun k Z=>by
  obtain⟨⟨c,b⟩,_⟩:=bEH u Z;exact off b n)
 have P:(bMY L V).length=L.length*11:=R;obtain⟨vI,a1,v⟩:=h.fd.prog;obtain⟨l,O,x⟩:=h.st
 have T:bMQ H (w'.setCell ⟨g,i*11+10,none⟩ (Qc r)) L V:=h.fd.c.move (fun k hu=>by
  obtain⟨⟨c,b⟩,_⟩:=h.fd.c.typ hu;rcases b with b|b
  ·exact off b Ob
  ·exact off b Ob)
 refine⟨fun o=>by simp[World.frozen?,p],⟨⟨vI,a1,(off v Ob).t v⟩,?_,j h.fd.arrs Ob,j h.fd.fns Ob,⟨_,j x Ob⟩,bMQ.sits T hi⟩,⟨h.fz.os,h.fz.tape,h.fz.output,Qm h.fz.size (by simp[World.setCell]),fun k d N s=>(y k (fun e=>s (by rw[q];simp[Value.ownBlock,e]))).t (h.fz.keep k d N s)⟩,l,O,j x Ob⟩;rw[bSP L V i a r hi h.fd.c.len,List.length_set];refine⟨by rw[List.length_set];exact P,.r ⟨g,J,K.setIfInBounds (i*11+10) (Qc r),q,X,aM _ p,S,W,by simp[hsz],?_⟩⟩;rw[Array.toList_setIfInBounds,List.take_set,Q]
theorem bX5(hZ:L.length<=100000)(d7:f<=1000000)(w:World)(T:SrW H U L A F f Y D M B V w w):
 Calls prog 66 #[Qd U] w fun e w'=>e= .returned (.tuple #[])/\∃ C,SrW H U C A F f Y D M B V w w'/\Sit f L C:=by
 obtain⟨al,r,rfl,_⟩:=eQ T.fd.nodes;obtain⟨xs,_,hx⟩:=T.st;obtain⟨ad,l,rfl,_⟩:=eQ hx
 have E:∀ C W,SrW H U C A F f (.slice al L.length r) D M (.slice ad f l) V w W->W.cell? ⟨U,5,none⟩=some (.slice ad f l)/\W.cell? ⟨U,0,none⟩=some (.slice al L.length r):=fun C W h=>by
  obtain⟨vI,u,hp⟩:=h.fd.prog;exact⟨Og hp rfl,Og hp rfl⟩
 have HW:Hid (SrW H U L A F f (.slice al L.length r) D M (.slice ad f l) V w w):=T;clear hx T;have b9:0<=(f:Int)/\(f:Int)<=1000000:=Oa
 go_enter func66,ntmps66
 go_upto_region 1 with fail
 go_loopg [2] (f+1) (fun n v2 wr=>∃ i:Nat,v2= Qc (i:Nat)/\i+n=f+1/\i<=f/\SrW H U L A F f (.slice al L.length r) D M (.slice ad f l) V w wr)
 case atStart=>exact⟨0,rfl,Od,Od,HW.o⟩
 case round=>
  clear HW;obtain⟨i,rfl,k8,k9,m⟩:=hrel;obtain⟨p,c0⟩:=E L wr m;have j:Hid (SrW H U L A F f (.slice al L.length r) D M (.slice ad f l) V w wr):=m;clear m
  by_cases hi:i < f
  ·have t0:decide ((i:Int) < (f:Int))=true:=by simp;omega
   obtain⟨u,rfl⟩:=Oj gk;have k6:IntKind.i64.wrap ((i:Int)+1)=(i:Int)+1:=IntWalk.i64_in _ Oa;go_wp2;go_loopg [3] (i+1) (fun n v3 wr=>∃ o:Nat,v3= Qc (o:Nat)/\o+1=n/\o<=i/\SrW H U L A F f (.slice al L.length r) D M (.slice ad f l) V w wr)
   case atStart=>exact⟨i,rfl,rfl,Ql _,j.o⟩
   case round=>
    clear j p c0;obtain⟨o,rfl,c7,c6,m⟩:=hrel;obtain⟨p,c0⟩:=E L wr m;have j:Hid (SrW H U L A F f (.slice al L.length r) D M (.slice ad f l) V w wr):=m;clear m
    by_cases hj:0 < o
    ·obtain⟨X,rfl⟩:∃ u,gk=u+1:=⟨gk - 1,Oa⟩;obtain⟨x,hp⟩:∃ x,x+1=o:=⟨o - 1,Oa⟩;have t1:decide ((o:Int) > 0)=true:=by simp;omega
     have d9:IntKind.i64.wrap ((o:Int) - 1)=(x:Int):=by rw[IntWalk.i64_in _ Oa];omega
     have b7:0<=(o:Int)/\(o:Int) < (f:Int):=Oa
     have c5:0<=(x:Int)/\(x:Int) < (f:Int):=Oa
     obtain⟨v,q⟩:=j.o.at_ Oa;obtain⟨a,b,a0,K,N,af⟩:=j.o.f (g:=v) (J:=l) (by rw[q]) (i:=o) Oa;obtain⟨c,d,d0,d1,d2,_⟩:=j.o.f (g:=v) (J:=l) (by rw[q]) (i:=x) Oa;rw[q]at p
     by_cases k1:b < d
     ·have Z:decide (b < d)=true:=by simpa using k1
      go_upto_region 4 with fail
      go_quiet (fail)
      have G:=j.o.below (bM5 (Below.refl _ _) nq);clear j a0 K N af d0 d1 d2 p c0 k1 Z;go_upto_region 6 with fail
      generalize wr.drewN nq=wq at*;obtain⟨p,c0⟩:=E L wq G;rw[q]at p;obtain⟨a,b,a0,K,N,af⟩:=G.site (g:=v) (J:=l) (by rw[q]) (i:=o) Oa;obtain⟨c,d,d0,d1,d2,_⟩:=G.site (g:=v) (J:=l) (by rw[q]) (i:=x) Oa;have k4:Hid (SrW H U L A F f (.slice al L.length r) D M (.slice ad f l) V w wq):=G;have y1:=Qp _ _ a0;have y0:=Qp _ _ p;dsimp only at y1 y0;clear G
      have d6:U≠v:=by
       obtain⟨vI,mm,k7⟩:=k4.o.fd.prog;obtain⟨ys,_,hy⟩:=k4.o.st;exact fun e=>bL5 hy k7 Ob (by rw[q,e];rfl)
      go_upto_region 7 with fail
      go_region
      go_upto_region 8 with fail
      go_region
      all_goals go_wp2
      all_goals go_roundg X
      all_goals try (case rel=>
       have h2:=(k4.o.put (g:=v) (J:=l) (by rw[q]) (i:=o) Oa c d).put (g:=v) (J:=l) (by rw[q]) (i:=x) Oa a b;exact⟨x,rfl,Oa,Oa,h2.below (by first|exact((Below.refl _ _).alloc Ol _).drew.drew|exact((Below.refl _ _).drew.alloc Ol _).drew|exact((Below.refl _ _).alloc Ol _).drew)⟩)
      all_goals try (case measure=>omega)
     ·have Z:decide (b < d)=false:=by simpa using k1
      go_upto_region 4 with fail
      go_quiet (fail)
      have G:=j.o.below (bM5 (Below.refl _ _) nq);clear j;go_wp2;go_roundg u
      case rel=>exact⟨i+1,Od,Oa,Oa,G⟩
      case measure=>omega
    ·have t1:decide ((o:Int) > 0)=false:=by simp;omega
     go_upto_region 4 with fail
     go_quiet (fail)
     have G:=j.o.below (bM5 (Below.refl _ _) nq);clear j;go_wp2;go_roundg u
     case rel=>exact⟨i+1,Od,Oa,Oa,G⟩
     case measure=>omega
  ·have t0:decide ((i:Int) < (f:Int))=false:=by simp;omega
   go_wp2;go_loopg [5] (L.length+1) (fun n v5 wr=>∃ (k:Nat) (C:List NQ),v5= Qc (k:Nat)/\k+n=L.length+1/\k<=L.length/\SrW H U C A F f (.slice al L.length r) D M (.slice ad f l) V w wr/\Sit f L C)
   case atStart=>exact⟨0,L,rfl,Od,Od,j.o,Sit.refl f L⟩
   case round=>
    clear j p c0;obtain⟨k,C,rfl,d5,d4,m,s⟩:=hrel;obtain⟨p,c0⟩:=E C wr m;have j:Hid (SrW H U C A F f (.slice al L.length r) D M (.slice ad f l) V w wr):=m;clear m
    by_cases hk:k < L.length
    ·have t1:decide ((k:Int) < (L.length:Int))=true:=by simp;omega
     obtain⟨u,rfl⟩:=Oj gk;have k6:IntKind.i64.wrap ((k:Int)+1)=(k:Int)+1:=IntWalk.i64_in _ Oa;have b8:0<=(k:Int)/\(k:Int) < (L.length:Int):=Oa
     obtain⟨n,hn⟩:∃ n,C[k]?=some n:=⟨C[k]'(by rw[s.len];exact hk),List.getElem?_eq_getElem _⟩;obtain⟨k',gr,a8,b1,c1,b2,c2,b3,c3,c9,_,h9,_,_,e0,e1,_⟩:=j.o.fd.Q (y:=(k:Int)) (a:=n) ⟨Oa,by simpa using hn⟩;obtain rfl:k=k':=Oa
     rw[s.len]at h9;simp only[Value.slice.injEq]at h9;obtain⟨hal,-,-⟩:=h9;rw[hal]at c0;have R:Hid (al=some ⟨gr,0,none⟩):=hal;clear e1 hal
     have k5:(n.d !=5)=false\/((n.d !=5)=true/\(n.d !=14)=false)\/((n.d !=5)=true/\(n.d !=14)=true/\(n.d !=6)=false)\/((n.d !=5)=true/\(n.d !=14)=true/\(n.d !=6)=true/\(n.d !=8)=false)\/((n.d !=5)=true/\(n.d !=14)=true/\(n.d !=6)=true/\(n.d !=8)=true):=by
      cases(n.d !=5)<;>cases(n.d !=14)<;>cases(n.d !=6)<;>cases(n.d !=8)<;>simp
     go_upto_region 13 with fail
     go_cut [101]from 88 to 101 (fun a1 w'=>∃ t:Bool,a1= .bool t/\wr=w')
     case first=>
      rcases k5 with Q|⟨Q,k2⟩|⟨Q,k2,h6⟩|⟨Q,k2,h6,h8⟩|⟨Q,k2,h6,h8⟩
      all_goals go_wp2
      all_goals go_meet
      all_goals exact⟨_,rfl,rfl⟩
     case rest=>
      obtain⟨t,rfl,rfl⟩:=hcut;cases t
      case true=>
       go_wp2;go_roundg u
       case rel=>exact⟨k+1,C,Od,Oa,Oa,j.o,s⟩
       case measure=>omega
      case false=>
       clear k5;go_wp2;go_loopg [7] (f+1) (fun n v7 wr=>∃ (i:Nat) (C:List NQ),v7= Qc (i:Nat)/\i+n=f+1/\i<=f/\SrW H U C A F f (.slice al L.length r) D M (.slice ad f l) V w wr/\Sit f L C)
       case atStart=>exact⟨0,C,rfl,Od,Od,j.o,s⟩
       case round=>
        clear j s p c0 e0 hn;obtain⟨i,z,rfl,k8,k9,m,s⟩:=hrel;obtain⟨p,c0⟩:=E z wr m;have j:Hid (SrW H U z A F f (.slice al L.length r) D M (.slice ad f l) V w wr):=m;clear m;rw[R.o]at c0
        by_cases hi:i < f
        ·have Z:decide ((i:Int) < (f:Int))=true:=by simp;omega
         obtain⟨X,rfl⟩:∃ u,gk=u+1:=⟨gk - 1,Oa⟩;have d8:IntKind.i64.wrap ((i:Int)+1)=(i:Int)+1:=IntWalk.i64_in _ Oa;have b6:0<=(i:Int)/\(i:Int) < (f:Int):=Oa
         obtain⟨I,P⟩:∃ n,z[k]?=some n:=⟨z[k]'(by rw[s.len];exact hk),List.getElem?_eq_getElem _⟩;obtain⟨k',b5,a9,a2,a5,a3,a6,a4,a7,d3,_,O,_,_,e0,e1,_⟩:=j.o.fd.Q (y:=(k:Int)) (a:=I) ⟨Oa,by simpa using P⟩;obtain rfl:k=k':=Oa
         have h3:=O;rw[R.o]at O;simp only[Value.slice.injEq,Option.some.injEq,Addr.mk.injEq]at O;obtain⟨⟨rfl,-⟩,-,-⟩:=O;obtain⟨v,q⟩:=j.o.at_ Oa;obtain⟨a,b,a0,K,N,_⟩:=j.o.f (g:=v) (J:=l) (by rw[q]) (i:=i) Oa;rw[q]at p;have y2:Hid _:=h3;clear q h3
         by_cases S:b=I.at_
         ·have t3:(b==I.at_)=true:=by simpa using S
          clear S e0;go_upto_region 17 with fail
          go_quiet (fail)
          have G:=j.o.below (bM5 (Below.refl _ _) nq);clear j a0 K N e1 p c0 t3;go_upto_region 18 with fail
          generalize wr.drewN nq=wq at*;obtain⟨_,c0⟩:=E z wq G;rw[R.o]at c0;obtain⟨fr,hN⟩:=G.node P (i:Int) y2.o;obtain⟨k3,g3,_,_,_,_,_,_,_,c8,_,k0,_,_,_,_,_,_,_,_,_,_,_,_,b4⟩:=G.fd.Q (y:=(k:Int)) (a:=I) ⟨Oa,by simpa using P⟩;obtain rfl:k=k3:=Oa
          rw[R.o]at k0;simp only[Value.slice.injEq,Option.some.injEq,Addr.mk.injEq]at k0;obtain⟨⟨rfl,-⟩,-,-⟩:=k0;have HN:Hid _:=hN;clear hN G;go_wp2;go_roundg X
          case rel=>exact⟨i+1,_,Od,Oa,Oa,HN.o,s.set P Oa⟩
          case measure=>omega
         ·have t3:(b==I.at_)=false:=by simpa using S
          clear S e0;go_upto_region 17 with fail
          go_quiet (fail)
          have G:=j.o.below (bM5 (Below.refl _ _) nq);clear j;go_wp2;go_roundg X
          case rel=>exact⟨i+1,z,Od,Oa,Oa,G,s⟩
          case measure=>omega
        ·have Z:decide ((i:Int) < (f:Int))=false:=by simp;omega
         go_wp2;go_roundg u
         case rel=>exact⟨k+1,z,Od,Oa,Oa,j.o,s⟩
         case measure=>omega
    ·have t1:decide ((k:Int) < (L.length:Int))=false:=by simp;omega
     go_wp2;go_end0
     exact⟨rfl,C,j.o,s⟩
end
section
variable {H U:Nat} {L C:List NQ} {A F:List Int} {ns Z g:Nat} {Y D M B:Value} {V:List V3} {K:Int->Prop}
def aA8(H U:Nat)(L:List NQ)(A F:List Int)(ns Z:Nat)(Y D M B:Value)(V:List V3)(w:World):Ending->World->Prop:=fun e w'=>∃ d1 g1 d2 g2,e= .returned (.tuple #[stA d1 g1 Z,stA d2 g2 Z])/\StW Z d1 g1 w'/\StW Z d2 g2 w'/\bM4 H U L A F ns Y D M B V w w'
theorem bVO(hN:Nok C L A F Z ns K)(hO:bVB C L A F)(hZ:L.length<=100000)(m1:A.length<=100000)(d8:F.length<=100000)(hv:Z<=100000)(g9:ns<=1000000):∀ (b5:Nat) (y:Int) (d:Bool) (g:Nat) (w:World),y.toNat < b5->KdK L K 1 y->FdW H U L A F ns Y D M B V w->StW Z d g w->
 Calls prog 236 #[Qd U,stA d g Z,Qc y] w (aA8 H U L A F ns Z Y D M B V w):=by
 intro b5
 induction b5 with
 |zero=>intro y d g w h;omega
 |succ b5 ih=>
  intro y d g w hn hk hw hs;obtain⟨hk,u,m7,f9⟩:=hk;obtain⟨a,ha,j4,_⟩:=hN y hk;obtain rfl:u=a:=by have J:=ha.2;have O:=m7.2;rw[J]at O;exact(Oq O).symm
  have h0:u.d=9\/u.d=10\/u.d=11:=by grind [cK]
  obtain⟨q,gr,a1,b1,c1,b2,c2,b3,c3,rfl,h1,rfl,j0,g0,e0,e1,e2,e3,e4,e5,e6,e7,e8,e9,f4⟩:=hw.Q ha;have f8:0<=(q:Int)/\(q:Int) < (L.length:Int):=Oa
  have d7:=Qp w _ g0;have d6:=Qp w _ e0;dsimp only at d7 d6;have j6:U < w.1.size+1/\U < w.1.size+1+1/\gr < w.1.size+1/\gr < w.1.size+1+1:=Oa
  obtain⟨W1,y3⟩:∃ W1,W1=(((w.alloc (stO d g Z)).alloc noO).alloc noO).alloc (ndO u b1 c1 b2 c2 b3 c3):=⟨_,rfl⟩
  have kb:Below w.1.size w W1:=by
   rw[y3]
   repeat (first|exact Below.refl _ _|refine Below.alloc ?_ (by first|(simp;done)|(simp;omega)) _)
  have q4:W1.1[w.1.size]?=some (stO d g Z):=by
   rw[y3]
   repeat (first|rw[hal,if_neg (by simp only[hsz];omega)]|rw[hal,if_pos (by simp only[])])
  have q6:W1.1[w.1.size+1]?=some noO:=by
   rw[y3]
   repeat (first|rw[hal,if_neg (by simp only[hsz];omega)]|rw[hal,if_pos (by simp only[hsz])])
  have q7:W1.1[w.1.size+1+1]?=some noO:=by
   rw[y3]
   repeat (first|rw[hal,if_neg (by simp only[hsz];omega)]|rw[hal,if_pos (by simp only[hsz])])
  have q8:W1.1[w.1.size+1+1+1]?=some (bMB u b1 c1 b2 c2 b3 c3):=by
   rw[y3]
   repeat (first|rw[hal,if_neg (by simp only[hsz];omega)]|rw[hal,if_pos (by simp only[hsz])])
  have HW:Hid (W1=_):=y3;go_enter func236,ntmps236
  go_upto_region 2 with fail
  rw[<-HW.o];clear HW y3 g0 e0 e1 e2 e3 e4 e5 e6 e7 e8 e9 f4 d7 d6 j6;have b6:∀ {c:Nat} {f2:Int},InK L K q c f2->0<=f2:=fun h=>by obtain⟨_,_,h6,hm,_⟩:=h;exact hm.1
  obtain⟨y1,R,z0,k3,h2⟩:∃ y1 R,u.c=[y1,R]/\(if u.d=9 then KdK L K 0 y1/\KdK L K 0 R else KdK L K 1 y1/\KdK L K 1 R)/\(0<=y1/\y1 < q)/\0<=R/\R < q:=by
   by_cases h9:u.d=9
   ·obtain⟨y1,R,h,i1,i2⟩:=j4.two (.r (.l h9));exact⟨y1,R,h,by rw[if_pos h9];exact⟨⟨i1.1,i1.2.2⟩,i2.1,i2.2.2⟩,⟨b6 i1,i1.2.1⟩,b6 i2,i2.2.1⟩
   ·obtain⟨y1,R,h,i1,i2⟩:=j4.both Oa;exact⟨y1,R,h,by rw[if_neg h9];exact⟨⟨i1.1,i1.2.2⟩,i2.1,i2.2.2⟩,⟨b6 i1,i1.2.1⟩,b6 i2,i2.2.1⟩
  obtain⟨E,hE⟩:∃ E:World->Prop,E=fun W=>Bw H U L A F ns (Qe gr L.length a1) D M B V w W/\W.1[w.1.size]?=some (stO d g Z)/\W.1[w.1.size+1+1+1]?=some (bMB u b1 c1 b2 c2 b3 c3)/\(∃ P v,W.1[w.1.size+1]?=some (Qf #[P,v] 230))/\∃ P v,W.1[w.1.size+1+1]?=some (Qf #[P,v] 230):=⟨_,rfl⟩;have E1:In E W1:=by unfold In;rw[hE];exact⟨(Bw.start hw).below kb,q4,q8,⟨_,_,q6⟩,_,_,q7⟩
  have z8:∀ W W2,In E W->bM4 H U L A F ns (Qe gr L.length a1) D M B V W W2->In E W2:=fun W W2 h s=>by
   unfold In at h ⊢;rw[hE]at h ⊢;obtain⟨J,O,h3,⟨_,_,h4⟩,_,_,h5⟩:=h;exact⟨J.b s,J.box s.2 Oa O,J.box s.2 Oa h3,⟨_,_,J.box s.2 Oa h4⟩,_,_,J.box s.2 Oa h5⟩
  have y8:∀ W,In E W->FdW H U L A F ns (Qe gr L.length a1) D M B V W:=fun W h=>by unfold In at h;rw[hE]at h;exact h.1.fd
  have y5:∀ W W2,In E W->Below W.1.size W W2->In E W2:=fun W W2 h hB=>z8 W W2 h (by unfold In at h;rw[hE]at h;exact h.1.post hB);have y7:∀ W,In E W->StW Z d g W:=fun W h=>by unfold In at h;rw[hE]at h;exact hs.fd hw h.1.fr
  have z7:∀ W,In E W->bM4 H U L A F ns (Qe gr L.length a1) D M B V w W:=fun W h=>by unfold In at h;rw[hE]at h;exact⟨h.1.fd,h.1.fr⟩
  obtain⟨g6,f7,g7,m5,m4⟩:=bNN j0 (i:=0) (y:=y1) (by rw[z0];rfl);have d0:u.c.length=2:=by rw[z0];rfl
  simp only[Value.slice.injEq]at g7;obtain⟨rfl,-,rfl⟩:=g7
  have j9:∀ W,In E W->(W.cell? ⟨w.1.size,0,none⟩=some (.bool d)/\W.cell? ⟨w.1.size,1,none⟩=some (Qe g Z Z)/\W.cell? ⟨w.1.size+1+1+1,2,none⟩=some (.string u.s)/\W.cell? ⟨w.1.size+1+1+1,5,none⟩=some (Qe g6 2 c1)/\W.cell? ⟨g6,0,none⟩=some (Qc y1)/\W.cell? ⟨g6,1,none⟩=some (Qc R))/\W.cell? ⟨w.1.size+1+1+1,0,none⟩=some (Qc u.d):=fun W h=>by
   unfold In at h;rw[hE]at h;obtain⟨J,O,h3,_⟩:=h;obtain⟨_,_,v1,x1⟩:=J.kid j0 (i:=0) (y:=y1) (by rw[z0];rfl);obtain⟨_,_,v2,x2⟩:=J.kid j0 (i:=1) (y:=R) (by rw[z0];rfl);simp only[Value.slice.injEq,Option.some.injEq,Addr.mk.injEq]at v1 v2;obtain⟨⟨rfl,-⟩,-⟩:=v1;obtain⟨⟨rfl,-⟩,-⟩:=v2;exact⟨⟨(bKX O).1,(bKX O).2.1,Og h3 rfl,by rw[cell_of_row _ _ _ _ _ _ h3,<-d0];rfl,x1,x2⟩,Og h3 rfl⟩
  have k0:∀ W b a2 P,In E W->b=w.1.size+1\/b=w.1.size+1+1->a2 < 2->In E (W.setCell ⟨b,a2,none⟩ P):=fun W b a2 P h hb hj=>by
   unfold In at h ⊢;rw[hE]at h ⊢;obtain⟨J,O,h3,⟨u1,u2,h4⟩,v1,v2,h5⟩:=h;have mv:∀ q,q≠b->(W.setCell ⟨b,a2,none⟩ P).1[q]?=W.1[q]?:=fun q hk=>Om hk
   have st:∀ {a5 y:Value},W.1[b]?=some (Qf #[a5,y] 230)->∃ a5 y,(W.setCell ⟨b,a2,none⟩ P).1[b]?=some (Qf #[a5,y] 230):=fun b7=>by
    have:=aM (o:=a2) P b7;obtain rfl|rfl:a2=0\/a2=1:=Oa
    ·exact⟨_,_,this⟩
    ·exact⟨_,_,this⟩
   refine⟨?_,(mv _ Oa).t O,(mv _ Oa).t h3,?_,?_⟩
   ·exact J.set Oa _ _
   ·rcases hb with rfl|rfl
    ·exact st h4
    ·exact⟨_,_,(mv _ Oa).t h4⟩
   ·rcases hb with rfl|rfl
    ·exact⟨_,_,(mv _ Oa).t h5⟩
    ·exact st h5
  have z6:∀ W,In E W->w.1.size+4<=W.1.size:=fun W h=>by
   unfold In at h;rw[hE]at h;have:=(Oo h.2.2.1);omega
  have r:Ck H U L A F ns (Qe gr L.length a1) D M B V (w.1.size+4) E:=⟨y8,z8,fun W b a5 y P v h hb b7=>by
   unfold In at h ⊢;rw[hE]at h ⊢;obtain⟨J,O,h3,⟨u1,u2,h4⟩,v1,v2,h5⟩:=h;have mv:∀ q,q≠b->((W.setCell ⟨b,0,none⟩ P).setCell ⟨b,1,none⟩ v).1[q]?=W.1[q]?:=fun q hk=>(Om hk).t (Om hk);exact⟨(J.set Oa _ _).set Oa _ _,(mv _ Oa).t O,(mv _ Oa).t h3,⟨_,_,(mv _ Oa).t h4⟩,_,_,(mv _ Oa).t h5⟩,fun W X b a2 P h hX hb=>by
   have hz:=z6 X hX;unfold In at h ⊢;rw[hE]at h ⊢;obtain⟨J,O,h3,⟨u1,u2,h4⟩,v1,v2,h5⟩:=h;have mv:∀ q,q≠b->(W.setCell ⟨b,a2,none⟩ P).1[q]?=W.1[q]?:=fun q hk=>Om hk;exact⟨J.set Oa _ _,(mv _ Oa).t O,(mv _ Oa).t h3,⟨_,_,(mv _ Oa).t h4⟩,_,_,(mv _ Oa).t h5⟩,z6,fun q e=>Oi ((Bw.start hw).vs q e)⟩
  have k7:Ow E (w.1.size+1):=fun W h=>⟨by unfold In at h;rw[hE]at h;exact h.2.2.2.1,fun P v=>k0 _ _ _ _ (k0 _ _ _ _ h Oy Ob) Oy Ob⟩;have y4:Ow E (w.1.size+1+1):=fun W h=>⟨by unfold In at h;rw[hE]at h;exact h.2.2.2.2,fun P v=>k0 _ _ _ _ (k0 _ _ _ _ h Oz Ob) Oz Ob⟩;have HE:Hid (In E W1):=E1;have l0:=(j9 W1 E1).2;have m3:∀ (a5 y:Int),a5≠y->(a5==y)=false:=fun a5 y h=>by simp[h]
  clear q4 q6 q7 q8 kb E1 hE m5 m4 j4 j0 d0 z0 hw hs
  by_cases h9:u.d=9
  ·have t9:(u.d==9)=true:=by simp[h9]
   rw[if_pos h9]at k3;go_upto_region 3 with fail
   have E0:=y5 _ _ HE.o (Below.refl _ _).drew
   go_region_held3 (fun x=>In E x) (first|assumption|exact G.o)
    ((go_at_call 234;refine(bOQ hN hO hZ m1 d8 hv g9 _ y1 d _ (Nat.lt_succ_self _) k3.1 (y8 _ E0) (y7 _ E0)).mono ?_;rintro e Wa ⟨r1,rfl,-,s⟩;have G:Hid (In E Wa):=z8 _ _ E0 s))
   go_upto_region 4 with fail
   have z:=y5 _ _ G.o (Below.refl _ _).drew
   go_region_held3 (fun x=>In E x) (first|assumption|exact S2.o)
    ((go_at_call 234;refine(bOQ hN hO hZ m1 d8 hv g9 _ R d _ (Nat.lt_succ_self _) k3.2 (y8 _ z) (y7 _ z)).mono ?_;rintro e Wb ⟨r2,rfl,-,s⟩;have S2:Hid (In E Wb):=z8 _ _ z s))
   go_upto_region 5 with fail
   have p:=y5 _ _ S2.o (Below.refl _ _).drew
   go_region_held3 (fun x=>In E x)
    (first
      |assumption
      |exact S3.o
      |exact S4.o
      |exact S5.o
      |exact(k7 _ S5.o).2 _ _
      |exact(y4 _ ((k7 _ S5.o).2 _ _)).2 _ _)
    (first
      |(go_at_call 112;refine(bT2 hN hZ hv y1 R f5 d _ k3.1 k3.2 (y8 _ S4.o) (y7 _ S4.o)).mono ?_;rintro e We ⟨d2,g2,rfl,k,y9⟩;have S5:Hid (In E We):=y5 _ _ S4.o y9;obtain⟨u1,u2,u3,u4,u5⟩:=k7.cells S5.o;obtain⟨v1,v2,v3,v4,v5⟩:=y4.cells S5.o)
      |(go_at_call 295;refine(bUR u.s _).mono ?_;rintro e Wd ⟨f5,rfl,d9⟩;have S4:Hid (In E Wd):=y5 _ _ S3.o d9)
      |(go_at_call 112;refine(bT2 hN hZ hv y1 R u.s d _ k3.1 k3.2 (y8 _ p) (y7 _ p)).mono ?_;rintro e Wc ⟨d1,g1,rfl,m,m8⟩;have S3:Hid (In E Wc):=y5 _ _ p m8))
   go_wp2;have e6:=(k7 _ S5.o).2 (.bool d1) (Qe g1 Z Z);have e7:=(y4 _ e6).2 (.bool d2) (Qe g2 Z Z);exact bodyPost_ret (v:= .tuple #[stA d1 g1 Z,stA d2 g2 Z]) (by simp[results,results236,go_sem,*]) rfl ⟨d1,g1,d2,g2,rfl,y4.st e6 (k7.st S5.o ((m.below d9).below y9) _ _) _ _,y4.st e6 (k7.st S5.o k _ _) _ _,z7 _ e7⟩
  ·have t9:=m3 _ _ h9;rw[if_neg h9]at k3;have a6:∀ (X:World) (q l:Nat) (P v:Value),q≠l->X.1[q]?=some noO->((X.setCell ⟨l,0,none⟩ P).setCell ⟨l,1,none⟩ v).1[q]?=some noO:=fun X q l P v hk b7=>((Om hk).t (Om hk)).t b7;go_upto_region 6 with fail
   have j:=r.sz _ HE.o;have N:=Nat.le_succ_of_le j;have E0:=r.dr HE.o;have k9:∀ W2,_->_:=fun W2=>r.one (o:=noO) (W2:=W2) HE.o;have k8:∀ W2,_->_:=fun W2=>r.two (W2:=W2) HE.o;go_cut [9,10]from 66 to 76 (fun v9 b4 x=>∃ d1 g1 d2 g2,Two (w.1.size+4) Z E d1 g1 d2 g2 v9 b4 x)
   case first=>
    go_region_held3 (fun x=>In E x)
     (first
       |assumption
       |exact G.o
       |with_reducible exact r.far _ _ _ _ _ _ G.o j n.o
       |with_reducible exact r.far _ _ _ _ _ _ G.o N T.o
       |with_reducible exact r.al (r.far _ _ _ _ _ _ G.o j n.o) _
       |with_reducible exact r.far _ _ _ _ _ _ (r.far _ _ _ _ _ _ G.o j n.o) N (a6 _ _ _ _ _ Oa T.o)
       |with_reducible exact r.far _ _ _ _ _ _ (r.far _ _ _ _ _ _ G.o N T.o) j (a6 _ _ _ _ _ Oa n.o)
       |(repeat (first|assumption|exact G.o|exact HE.o|refine r.dr ?_|refine r.al ?_ _)))
     ((go_at_call 236;refine(ih y1 d g _ Oa k3.1 (r.fd _ Qi) (y7 _ Qi)).mono ?_;rintro e W2 ⟨b8,c6,c5,c7,rfl,m,k,s⟩;have G:Hid (In E W2):=r.nx _ _ Qi s;first|((with_reducible have nn:=k9 _ s);obtain⟨t,z3⟩:=nn;have n:Hid _:=t;obtain⟨a7,a8,a9⟩:=bLG t;clear t)|(with_reducible have g8:=r.nx _ _ E0 s)|((with_reducible have nn:=k8 _ s);obtain⟨t,m0,z3⟩:=nn;have n:Hid _:=t;have T:Hid _:=m0;obtain⟨a7,a8,a9⟩:=bLG t;obtain⟨c8,c9,f1⟩:=bLG m0;clear t m0)))
    all_goals go_wp2
    all_goals go_meet
    all_goals first
     |with_reducible exact⟨_,_,_,_,r.way1 G.o m k⟩
     |with_reducible exact⟨_,_,_,_,r.way2 G.o m k⟩
     |with_reducible exact⟨_,_,_,_,r.way3 G.o m k j n.o⟩
     |with_reducible exact⟨_,_,_,_,r.way4 G.o m k j n.o⟩
     |with_reducible exact⟨_,_,_,_,r.way5 G.o m k j N Oa n.o T.o⟩
     |with_reducible exact⟨_,_,_,_,r.way5 G.o m k N j Oa T.o n.o⟩
   case rest=>
    obtain⟨d1,g1,d2,g2,b9,I,rfl,rfl,⟨m2,j5⟩,q9,a4,hW,m,k⟩:=hcut;obtain⟨z,y6⟩:∃ z,z=Twq Z E d1 g1 d2 g2 b9 I:=⟨_,rfl⟩;have f:Ck H U L A F ns (Qe gr L.length a1) D M B V (max b9 I+1) z:=by rw[y6];exact r.tw m2 j5
    have j2:Ow z (w.1.size+1):=by rw[y6];exact k7.tw Oa Oa
    have j1:Ow z (w.1.size+1+1):=by rw[y6];exact y4.tw Oa Oa
    have HX:Hid (In z wc):=by unfold Hid In;rw[y6];exact⟨hW,q9,a4,m,k⟩
    have k6:∀ W,In z W->In E W/\StW Z d1 g1 W/\StW Z d2 g2 W:=fun W h=>by unfold In at h;rw[y6]at h;exact⟨h.1,h.2.2.2⟩
    have z4:∀ W,In z W->W.cell? ⟨b9,0,none⟩=some (.bool d1)/\W.cell? ⟨b9,1,none⟩=some (Qe g1 Z Z)/\W.cell? ⟨I,0,none⟩=some (.bool d2)/\W.cell? ⟨I,1,none⟩=some (Qe g2 Z Z)/\W.cell? ⟨w.1.size+1+1+1,5,none⟩=some (Qe g6 2 c1)/\W.cell? ⟨g6,1,none⟩=some (Qc R)/\W.cell? ⟨w.1.size+1+1+1,0,none⟩=some (Qc u.d):=fun W h=>by
     have J:=j9 W (k6 W h).1;unfold In at h;rw[y6]at h;exact⟨(bKX h.2.1).1,(bKX h.2.1).2.1,(bKX h.2.2.1).1,(bKX h.2.2.1).2.1,J.1.2.2.2.1,J.1.2.2.2.2.2,J.2⟩
    have l0:=(z4 _ HX.o).2.2.2.2.2.2;clear y6 q9 a4 hW m k k9 k8 E0 j9 y7 z8 y8 y5 k0 k7 y4 HE j N
    by_cases j3:u.d=10
    ·have f6:(u.d==10)=true:=by simp[j3]
     clear j3;go_upto_region 8 with fail
     have j:=f.sz _ HX.o;have N:=Nat.le_succ_of_le j;have F0:=f.dr HX.o;have k9:∀ W2,_->_:=fun W2=>f.one (o:=noO) (W2:=W2) HX.o;have k8:∀ W2,_->_:=fun W2=>f.two (W2:=W2) HX.o;go_cut [11,12]from 79 to 89 (fun v9 b4 x=>∃ d3 g3 d4 g4,Two (max b9 I+1) Z z d3 g3 d4 g4 v9 b4 x)
     case first=>
      go_region_held3 (fun x=>In z x)
       (first
         |assumption
         |exact G.o
         |with_reducible exact f.far _ _ _ _ _ _ G.o j n.o
         |with_reducible exact f.far _ _ _ _ _ _ G.o N T.o
         |with_reducible exact f.al (f.far _ _ _ _ _ _ G.o j n.o) _
         |with_reducible exact f.far _ _ _ _ _ _ (f.far _ _ _ _ _ _ G.o j n.o) N (a6 _ _ _ _ _ Oa T.o)
         |with_reducible exact f.far _ _ _ _ _ _ (f.far _ _ _ _ _ _ G.o N T.o) j (a6 _ _ _ _ _ Oa n.o)
         |(repeat (first|assumption|exact G.o|exact HX.o|refine f.dr ?_|refine f.al ?_ _)))
       ((go_at_call 236;refine(ih R d1 g1 _ Oa k3.2 (f.fd _ Qi) (k6 _ Qi).2.1).mono ?_;rintro e W2 ⟨b8,c6,c5,c7,rfl,m,k,s⟩;have G:Hid (In z W2):=f.nx _ _ Qi s;first|((with_reducible have nn:=k9 _ s);obtain⟨t,z3⟩:=nn;have n:Hid _:=t;obtain⟨a7,a8,a9⟩:=bLG t;clear t)|(with_reducible have g8:=f.nx _ _ F0 s)|((with_reducible have nn:=k8 _ s);obtain⟨t,m0,z3⟩:=nn;have n:Hid _:=t;have T:Hid _:=m0;obtain⟨a7,a8,a9⟩:=bLG t;obtain⟨c8,c9,f1⟩:=bLG m0;clear t m0)))
      all_goals go_wp2
      all_goals go_meet
      all_goals first
       |with_reducible exact⟨_,_,_,_,f.way1 G.o m k⟩
       |with_reducible exact⟨_,_,_,_,f.way2 G.o m k⟩
       |with_reducible exact⟨_,_,_,_,f.way3 G.o m k j n.o⟩
       |with_reducible exact⟨_,_,_,_,f.way4 G.o m k j n.o⟩
       |with_reducible exact⟨_,_,_,_,f.way5 G.o m k j N Oa n.o T.o⟩
       |with_reducible exact⟨_,_,_,_,f.way5 G.o m k N j Oa T.o n.o⟩
     case rest=>
      obtain⟨d3,g3,d4,g4,a3,Q,rfl,rfl,⟨z5,k4⟩,q9,a4,hW,m,k⟩:=hcut;obtain⟨p,S⟩:∃ p,p=Twq Z z d3 g3 d4 g4 a3 Q:=⟨_,rfl⟩;have z9:Ck H U L A F ns (Qe gr L.length a1) D M B V (max a3 Q+1) p:=by rw[S];exact f.tw z5 k4
      have k2:Ow p (w.1.size+1):=by rw[S];exact j2.tw Oa Oa
      have k5:Ow p (w.1.size+1+1):=by rw[S];exact j1.tw Oa Oa
      have HY:Hid (In p wc):=by unfold Hid In;rw[S];exact⟨hW,q9,a4,m,k⟩
      have m6:∀ W,In p W->W.cell? ⟨a3,0,none⟩=some (.bool d3)/\W.cell? ⟨a3,1,none⟩=some (Qe g3 Z Z)/\W.cell? ⟨I,0,none⟩=some (.bool d2)/\W.cell? ⟨I,1,none⟩=some (Qe g2 Z Z)/\W.cell? ⟨Q,0,none⟩=some (.bool d4)/\W.cell? ⟨Q,1,none⟩=some (Qe g4 Z Z):=fun W h=>by
       unfold In at h;rw[S]at h;have O:=z4 W h.1;exact⟨(bKX h.2.1).1,(bKX h.2.1).2.1,O.2.2.1,O.2.2.2.1,(bKX h.2.2.1).1,(bKX h.2.2.1).2.1⟩
      have y0:∀ W,In p W->StW Z d1 g1 W/\StW Z d2 g2 W/\StW Z d3 g3 W/\StW Z d4 g4 W:=fun W h=>by
       unfold In at h;rw[S]at h;exact⟨(k6 W h.1).2.1,(k6 W h.1).2.2,h.2.2.2⟩
      have j8:∀ W,In p W->bM4 H U L A F ns (Qe gr L.length a1) D M B V w W:=fun W h=>by
       unfold In at h;rw[S]at h;exact z7 W (k6 W h.1).1
      clear S q9 a4 hW m k k9 k8 F0 z4 j2 j1 HX j N z5 k4 z7;have G0:=z9.dr HY.o;go_upto_region 9 with fail
      go_region_held3 (fun x=>In p x) (first|assumption|exact G.o|exact(k2 _ G.o).2 _ _|exact(k5 _ ((k2 _ G.o).2 _ _)).2 _ _)
       ((go_at_call 237;refine(bUU hv d2 d4 g2 g4 _ (y0 _ G0).2.1 (y0 _ G0).2.2.2).mono ?_;rintro e W5 ⟨d5,g5,rfl,j7,y9⟩;have G:Hid (In p W5):=z9.be G0 y9;obtain⟨u1,u2,u3,u4,u5⟩:=k2.cells G.o;obtain⟨v1,v2,v3,v4,v5⟩:=k5.cells G.o))
      go_wp2;have e6:=(k2 _ G.o).2 (.bool d3) (Qe g3 Z Z);have e7:=(k5 _ e6).2 (.bool d5) (Qe g5 Z Z);exact bodyPost_ret (v:= .tuple #[stA d3 g3 Z,stA d5 g5 Z]) (by simp[results,results236,go_sem,*]) rfl ⟨d3,g3,d5,g5,rfl,k5.st e6 (k2.st G.o ((y0 _ G.o).2.2.1) _ _) _ _,k5.st e6 (k2.st G.o j7 _ _) _ _,j8 _ e7⟩
    ·have f6:(u.d==10)=false:=by simp[j3]
     clear j3;go_upto_region 10 with fail
     have j:=f.sz _ HX.o;have N:=Nat.le_succ_of_le j;have F0:=f.dr HX.o;have k9:∀ W2,_->_:=fun W2=>f.one (o:=noO) (W2:=W2) HX.o;have k8:∀ W2,_->_:=fun W2=>f.two (W2:=W2) HX.o;go_cut [13,14]from 93 to 103 (fun v9 b4 x=>∃ d3 g3 d4 g4,Two (max b9 I+1) Z z d3 g3 d4 g4 v9 b4 x)
     case first=>
      go_region_held3 (fun x=>In z x)
       (first
         |assumption
         |exact G.o
         |with_reducible exact f.far _ _ _ _ _ _ G.o j n.o
         |with_reducible exact f.far _ _ _ _ _ _ G.o N T.o
         |with_reducible exact f.al (f.far _ _ _ _ _ _ G.o j n.o) _
         |with_reducible exact f.far _ _ _ _ _ _ (f.far _ _ _ _ _ _ G.o j n.o) N (a6 _ _ _ _ _ Oa T.o)
         |with_reducible exact f.far _ _ _ _ _ _ (f.far _ _ _ _ _ _ G.o N T.o) j (a6 _ _ _ _ _ Oa n.o)
         |(repeat (first|assumption|exact G.o|exact HX.o|refine f.dr ?_|refine f.al ?_ _)))
       ((go_at_call 236;refine(ih R d2 g2 _ Oa k3.2 (f.fd _ Qi) (k6 _ Qi).2.2).mono ?_;rintro e W2 ⟨b8,c6,c5,c7,rfl,m,k,s⟩;have G:Hid (In z W2):=f.nx _ _ Qi s;first|((with_reducible have nn:=k9 _ s);obtain⟨t,z3⟩:=nn;have n:Hid _:=t;obtain⟨a7,a8,a9⟩:=bLG t;clear t)|(with_reducible have g8:=f.nx _ _ F0 s)|((with_reducible have nn:=k8 _ s);obtain⟨t,m0,z3⟩:=nn;have n:Hid _:=t;have T:Hid _:=m0;obtain⟨a7,a8,a9⟩:=bLG t;obtain⟨c8,c9,f1⟩:=bLG m0;clear t m0)))
      all_goals go_wp2
      all_goals go_meet
      all_goals first
       |with_reducible exact⟨_,_,_,_,f.way1 G.o m k⟩
       |with_reducible exact⟨_,_,_,_,f.way2 G.o m k⟩
       |with_reducible exact⟨_,_,_,_,f.way3 G.o m k j n.o⟩
       |with_reducible exact⟨_,_,_,_,f.way4 G.o m k j n.o⟩
       |with_reducible exact⟨_,_,_,_,f.way5 G.o m k j N Oa n.o T.o⟩
       |with_reducible exact⟨_,_,_,_,f.way5 G.o m k N j Oa T.o n.o⟩
     case rest=>
      obtain⟨d3,g3,d4,g4,a3,Q,rfl,rfl,⟨z5,k4⟩,q9,a4,hW,m,k⟩:=hcut;obtain⟨p,S⟩:∃ p,p=Twq Z z d3 g3 d4 g4 a3 Q:=⟨_,rfl⟩;have z9:Ck H U L A F ns (Qe gr L.length a1) D M B V (max a3 Q+1) p:=by rw[S];exact f.tw z5 k4
      have k2:Ow p (w.1.size+1):=by rw[S];exact j2.tw Oa Oa
      have k5:Ow p (w.1.size+1+1):=by rw[S];exact j1.tw Oa Oa
      have HY:Hid (In p wc):=by unfold Hid In;rw[S];exact⟨hW,q9,a4,m,k⟩
      have m6:∀ W,In p W->W.cell? ⟨b9,0,none⟩=some (.bool d1)/\W.cell? ⟨b9,1,none⟩=some (Qe g1 Z Z)/\W.cell? ⟨a3,0,none⟩=some (.bool d3)/\W.cell? ⟨a3,1,none⟩=some (Qe g3 Z Z)/\W.cell? ⟨Q,0,none⟩=some (.bool d4)/\W.cell? ⟨Q,1,none⟩=some (Qe g4 Z Z):=fun W h=>by
       unfold In at h;rw[S]at h;have O:=z4 W h.1;exact⟨O.1,O.2.1,(bKX h.2.1).1,(bKX h.2.1).2.1,(bKX h.2.2.1).1,(bKX h.2.2.1).2.1⟩
      have y0:∀ W,In p W->StW Z d1 g1 W/\StW Z d2 g2 W/\StW Z d3 g3 W/\StW Z d4 g4 W:=fun W h=>by
       unfold In at h;rw[S]at h;exact⟨(k6 W h.1).2.1,(k6 W h.1).2.2,h.2.2.2⟩
      have j8:∀ W,In p W->bM4 H U L A F ns (Qe gr L.length a1) D M B V w W:=fun W h=>by
       unfold In at h;rw[S]at h;exact z7 W (k6 W h.1).1
      clear S q9 a4 hW m k k9 k8 F0 z4 j2 j1 HX j N z5 k4 z7;have G0:=z9.dr HY.o;go_upto_region 11 with fail
      go_region_held3 (fun x=>In p x) (first|assumption|exact G.o|exact(k2 _ G.o).2 _ _|exact(k5 _ ((k2 _ G.o).2 _ _)).2 _ _)
       ((go_at_call 237;refine(bUU hv d1 d3 g1 g3 _ (y0 _ G0).1 (y0 _ G0).2.2.1).mono ?_;rintro e W5 ⟨d5,g5,rfl,j7,y9⟩;have G:Hid (In p W5):=z9.be G0 y9;obtain⟨u1,u2,u3,u4,u5⟩:=k2.cells G.o;obtain⟨v1,v2,v3,v4,v5⟩:=k5.cells G.o))
      go_wp2;have e6:=(k2 _ G.o).2 (.bool d5) (Qe g5 Z Z);have e7:=(k5 _ e6).2 (.bool d4) (Qe g4 Z Z);exact bodyPost_ret (v:= .tuple #[stA d5 g5 Z,stA d4 g4 Z]) (by simp[results,results236,go_sem,*]) rfl ⟨d5,g5,d4,g4,rfl,k5.st e6 (k2.st G.o j7 _ _) _ _,k5.st e6 (k2.st G.o ((y0 _ G.o).2.2.2) _ _) _ _,j8 _ e7⟩
end
section
variable {H U:Nat} {L C:List NQ} {A F:List Int} {ns Z g:Nat} {Y D M B:Value} {V:List V3} {K:Int->Prop}
def GoQ(H U:Nat)(L:List NQ)(A F:List Int)(ns Z:Nat)(Y D M B:Value)(V:List V3)(K:Int->Prop)(fn c n:Nat):Prop:=∀ (y:Int) (d:Bool) (g:Nat) (w:World),y.toNat < n->KdK L K c y->FdW H U L A F ns Y D M B V w->StW Z d g w->
 Calls prog fn #[Qd U,stA d g Z,Qc y] w (bV8 H U L A F ns Z Y D M B V w)
theorem bXQ(hN:Nok C L A F Z ns K)(_:L.length<=100000)(n:Nat)(hS:GoQ H U L A F ns Z Y D M B V K 178 2 n):GoQ H U L A F ns Z Y D M B V K 113 3 (n+1):=by
 intro a1 d g w hn O u hs;obtain⟨O,b,k9,a9⟩:=O;obtain⟨a,ha,k3,_⟩:=hN a1 O;obtain rfl:b=a:=by have y:=ha.2;have t:=k9.2;rw[y]at t;exact(Oq t).symm
 have h0:∀ z∈b.c,KdK L K 2 z/\0<=z/\z < a1:=by
  have a6:b.d=19:=by grind [cK]
  rcases k3 with⟨h,_⟩|⟨h,_⟩|⟨_,h⟩|⟨h,_⟩|⟨h,_⟩|⟨h,_⟩|⟨h,_⟩
  case inr.r.l=>exact fun z m=>by obtain⟨y,t,T,h3,h4⟩:=h z m;exact⟨⟨y,T,h3,h4⟩,h3.1,t⟩
  all_goals omega
 obtain⟨P,gr,x,b1,c1,b2,c2,b3,c3,rfl,b6,rfl,I,g0,e0,e1,e2,e3,e4,e5,e6,e7,e8,e9,a2⟩:=u.Q ha;have k8:=bSZ I.k;unfold maxLen at k8;have a7:0<=(P:Int)/\(P:Int) < (L.length:Int):=Oa
 have N:=Qp w _ g0;have J:=Qp w _ e0;dsimp only at N J;obtain⟨c,r⟩:∃ c,c=(w.alloc (stO d g Z)).alloc noO:=⟨_,rfl⟩
 have s:Below w.1.size w c:=by
  rw[r];exact((Below.refl _ _).alloc Ol _).alloc (by rw[hsz];omega) _
 have j:c.1[w.1.size]?=some (stO d g Z):=by
  rw[r]
  repeat (first|rw[hal,if_neg (by simp only[hsz];omega)]|rw[hal,if_pos (by simp only[])])
 have q6:c.1[w.1.size+1]?=some noO:=by
  rw[r]
  repeat (first|rw[hal,if_neg (by simp only[hsz];omega)]|rw[hal,if_pos (by simp only[hsz])])
 have HW:Hid (c=_):=r;clear r;go_enter func113,ntmps113
 go_upto_region 1 with fail
 rw[<-HW.o];have a4:=(s.cell (p:=⟨U,0,none⟩) N).t g0;have a3:=(s.cell (p:=⟨gr,P*11+5,none⟩) J).t e5;clear HW g0 e0 e1 e2 e3 e4 e5 e6 e7 e8 e9 a2 N J;obtain⟨E,f⟩:∃ E,E=Kl H U L A F ns (Qe gr L.length x) D M B V w [w.1.size,w.1.size+1] []:=⟨_,rfl⟩;have S:Ck H U L A F ns (Qe gr L.length x) D M B V (w.1.size+2) E:=by rw[f];exact Kl.ck u Od Od Od Oa
 have R:Ow E w.1.size:=by rw[f];exact Kl.ow Od Oa Od
 have Q:Ow E (w.1.size+1):=by rw[f];exact Kl.ow Od Oa Od
 have X:Hid (In E c):=by unfold Hid In;rw[f];exact⟨(Bw.start u).below s,by simp[j,q6],Od⟩
 have y0:∀ W,In E W->bM4 H U L A F ns (Qe gr L.length x) D M B V w W:=fun W h=>by unfold In at h;rw[f]at h;exact⟨h.1.fd,h.1.fr⟩
 have h7:∀ W i z,In E W->b.c[i]?=some z->∃ q,b1=some ⟨q,0,none⟩/\W.cell? ⟨q,i,none⟩=some (Qc z):=fun W i z h m=>by
  unfold In at h;rw[f]at h;obtain⟨q,cp,e,a5⟩:=h.1.kid I m;simp only[Value.slice.injEq]at e;exact⟨q,e.1,a5⟩
 have k5:=hs.below s;clear f hs u k3 I q6 s;go_upto_region 2 with fail
 go_wp2;go_loopg [8] (b.c.length+1) (fun n v8 wr=>∃ (i:Nat) (k:Bool) (l:Nat),v8= Qc (i:Nat)/\i+n=b.c.length+1/\i<=b.c.length/\In E wr/\wr.1[w.1.size]?=some (stO k l Z)/\StW Z k l wr)
 case atStart=>exact⟨0,d,g,rfl,Od,Od,X.o,j,k5⟩
 case round=>
  clear X j k5 a4 a3;obtain⟨i,k,l,rfl,b5,b4,k6,j,k4⟩:=hrel;have o:Hid (In E wr):=k6;clear k6;obtain⟨s0,s1,_⟩:=bKX j;have Q4:Hid _:=j;clear j
  by_cases hi:i < b.c.length
  ·have t0:decide ((i:Int) < (b.c.length:Int))=true:=by simp;omega
   obtain⟨T,rfl⟩:=Oj gk;have a8:0<=(i:Int)/\(i:Int) < (b.c.length:Int):=Oa
   have b7:IntKind.i64.wrap ((i:Int)+1)=(i:Int)+1:=IntWalk.i64_in _ Oa;obtain⟨z,m⟩:∃ z,b.c[i]?=some z:=⟨b.c[i],List.getElem?_eq_getElem _⟩;obtain⟨k7,b8,b9⟩:=h0 z (Qr m);obtain⟨q,rfl,x0⟩:=h7 wr i z o.o m;have F0:=S.dr o.o;go_upto_region 5 with fail
   go_region_with (go_at_call 178;refine(hS z k l _ Oa k7 (S.fd _ F0) (k4.below (Below.refl _ _).drew)).mono ?_;rintro e W ⟨d2,g2,rfl,hT,hp⟩;have G:Hid (In E W):=S.nx _ _ F0 hp;obtain⟨u1,u2,u3,u4,u5⟩:=R.cells G.o)
   all_goals go_wp2
   all_goals go_roundg T
   all_goals try (case rel=>
    obtain⟨⟨_,_,o4⟩,o5⟩:=R _ G.o;exact⟨i+1,d2,g2,Od,Oa,Oa,o5 _ _,bN8 o4,R.st G.o hT _ _⟩)
   all_goals try (case measure=>omega)
  ·have t0:decide ((i:Int) < (b.c.length:Int))=false:=by simp;omega
   obtain⟨u1,u2,u3,u4,u5⟩:=Q.cells o.o;go_wp2;exact bodyPost_ret (v:=stA k l Z) (by simp[results,results113,go_sem,*]) rfl ⟨k,l,rfl,Q.st o.o k4 _ _,y0 _ ((Q _ o.o).2 _ _)⟩
end
end Go.Proofs.YtikffmloeifkpaaGreatDoor
