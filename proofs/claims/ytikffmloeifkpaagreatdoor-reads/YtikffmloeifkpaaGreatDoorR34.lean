/- Contracts. -/
import Derived.Test.YtikffmloeifkpaaGreatDoorR33
namespace Go.Proofs.YtikffmloeifkpaaGreatDoor
open Go.RowKit Go.Lib Go.Deep Go.ChangeMaps Go.MapKept Tryz
section
variable {H U:Nat} {L S:List NQ} {A F:List Int} {ns Z g:Nat} {Y D M B O:Value} {V:List V3} {K:Int->Prop}
def bT6(H U:Nat)(L:List NQ)(A F:List Int)(ns:Nat)(Y D M B:Value)(V:List V3)(w:World):Ending->World->Prop:=fun e w'=>∃ r,e= .returned (rgA r)/\Rk r/\bM4 H U L A F ns Y D M B V w w'
structure Cls(E:World->Prop) where
 w:World
 h:E w
theorem bO0{P:Program}{E:World->Prop}{id:Nat}{Q:Exit->Act->World->Prop}{a:Act}{w:World}{l:List Oper}(e:P.follows .mixedOrders=true)(d:Region.lexB .any l.toArray=true)(b:E w.drew)(h:Nonempty (Cls E)->wpQuiet P l.toArray (fun w'=>∃ x:Cls E,w'=x.w) (fun c=>∀ w',(∃ x:Cls E,w'=x.w)->Q .normal c w') l a):(Code.region id l.toArray true).wp P Q a w:=
 wp_region_quiet (C:=fun w'=>∃ x:Cls E,w'=x.w) e d ⟨⟨_,b⟩,rfl⟩ (h ⟨⟨_,b⟩⟩)
structure bVB(S L:List NQ)(A F:List Int):Prop where
 arr:∀ (i:Nat) x,A[i]?=some x->∃ n,Ndq L x n
 fn:∀ (i:Nat) x n0,F[i]?=some x->Ndq S x n0->n0.g.length<=100000/\∃ n,Ndq L x n/\∀ c∈n.e,bYO L n0.g.length c
structure ExW(H U:Nat)(L:List NQ)(A F:List Int)(ns:Nat)(Y D M B:Value)(V:List V3)(d:Bool)(g Z:Nat)(o:Obj)(w:World)(R:List (Int × Int))(O:Value)(w':World):Prop where
 q0:w'.1[w.1.size]?=some (stO d g Z)
 q1:w'.1[w.1.size+1]?=some (rgO (0,0))
 q2:w'.1[w.1.size+1+1]?=some o
 row:w'.ownsRow (w.1.size+3) 232 2 O R.length (rgC R)
 rk:∀ r∈R,Rk r
 fd:FdW H U L A F ns Y D M B V w'
 fr:Fd B w w'
 sz:w.1.size+3<=w'.1.size
 vs:∀ k,B.ownBlock=some k->k < w.1.size
section
variable {d:Bool} {o:Obj} {w w' w2:World} {R:List (Int × Int)}
theorem ExW.b(h:ExW H U L A F ns Y D M B V d g Z o w R O w')(b:Fd B w' w2)(j:FdW H U L A F ns Y D M B V w2):ExW H U L A F ns Y D M B V d g Z o w R O w2:=by
 have i:=h.sz;have a:∀ k,w.1.size<=k->k < w'.1.size->w2.1[k]?=w'.1[k]?:=fun k l f=>b.keep k f (fun e=>by have:=h.vs k e;omega);exact⟨(a _ Oa Oa).t h.q0,(a _ Oa Oa).t h.q1,(a _ Oa Oa).t h.q2,cD h.row (fun k c=>a k (Oi ((bEH h.row c).2)) (bLP h.row c)),h.rk,j,h.fr.t b,Qm i b.size,h.vs⟩
theorem FdW.off(h:FdW H U L A F ns Y D M B V w)(b:∀ (k:Nat) (cs:Array Value) (t:TypeId),w.1[k]?=some (.cells cs t (0,0))->t≠232->w2.1[k]?=w.1[k]?):FdW H U L A F ns Y D M B V w2:=by
 obtain⟨x,u,l⟩:=h.prog;obtain⟨i,s⟩:=h.d
 have f:∀ {n m:Nat} {e:TypeId} {v:Value} {i:List Value},w.ownsRow H e m v n i->e≠232->w2.ownsRow H e m v n i:=fun j p=>cD j (fun k q=>by
  obtain⟨⟨c,a⟩,_⟩:=bEH j q;exact b k c _ a p)
 exact⟨⟨x,u,(b _ _ _ l Ob).t l⟩,f h.nodes Ob,f h.arrs Ob,f h.fns Ob,⟨i,f s Ob⟩,h.c.move (fun k r=>by
  obtain⟨⟨c,a⟩,_⟩:=h.c.typ r;rcases a with a|a
  ·exact b k _ _ a Ob
  ·exact b k _ _ a Ob)⟩
theorem bVN(r:Int × Int):∀ R:List (Int × Int),rgC (R++[r])=rgC R++[Qc r.1,Qc r.2]
 |[]=>rfl
 |x::R=>by rw[List.cons_append,rgC,rgC,bVN r R];rfl
theorem ExW.push(h:ExW H U L A F ns Y D M B V d g Z o w R O w'){r:Int × Int}(p:Rk r){x:Obj}{j J:Nat}(l:w2.ownsRow (w.1.size+3) 232 2 (Qe j (R.length+1) J) (R.length+1) (rgC R++[Qc r.1,Qc r.2]))(a:(w'.alloc x).grownBy w2 O.ownBlock):
 ExW H U L A F ns Y D M B V d g Z o w (R++[r]) (Qe j (R.length+1) J) w2:=by
 have u:=h.sz;have v:(w'.alloc x).1.size=w'.1.size+1:=hsz _ _;have y:=a.size;have f:∀ k,k < w'.1.size->O.ownBlock≠some k->w2.1[k]?=w'.1[k]?:=fun k m i=>(a.block k Oa (fun e=>i e.symm)).t (On m);have lo:∀ k,k < w.1.size+3->O.ownBlock≠some k:=fun k b e=>by have:=(bEH h.row e).2;omega
 exact⟨(f _ Oa (lo _ Oa)).t h.q0,(f _ Oa (lo _ Oa)).t h.q1,(f _ Oa (lo _ Oa)).t h.q2,by rw[List.length_append,bVN];exact l,fun q c=>by
  rcases List.mem_append.1 c with c|c
  ·exact h.rk q c
  ·rw[List.mem_singleton.1 c];exact p,h.fd.off (fun k s t b n=>f k (Oo b) (bL5 h.row b (Ne.symm n))),⟨a.os.t h.fr.os,a.tape.t h.fr.tape,a.output.t h.fr.output,Oi h.fr.size,fun k b i=>(f k Oa (lo _ Oa)).t (h.fr.keep k b i)⟩,Oa,h.vs⟩
end
section
variable {d:Bool} {o:Obj} {w w' w2:World} {R:List (Int × Int)} {i:Int} {n:NQ}
theorem ExW.setB(h:ExW H U L A F ns Y D M B V d g Z o w R O w'){b:Nat}{cs:Array Value}(p:w'.1[b]?=some (.cells cs 232 (0,0)))(q:w.1.size+3<=b)(l:O.ownBlock≠some b)(j:Nat)(u:Value):ExW H U L A F ns Y D M B V d g Z o w R O (w'.setCell ⟨b,j,none⟩ u):=by
 have c:∀ k,k≠b->(w'.setCell ⟨b,j,none⟩ u).1[k]?=w'.1[k]?:=fun k a=>Om a;exact⟨(c _ Oa).t h.q0,(c _ Oa).t h.q1,(c _ Oa).t h.q2,cD h.row (fun k a=>c k (fun e=>l (e ▸ a))),h.rk,h.fd.off (fun k cs t a f=>c k (bEF a p f)),⟨h.fr.os,h.fr.tape,h.fr.output,by simp[World.setCell];exact h.fr.size,fun k a m=>(c k Oa).t (h.fr.keep k a m)⟩,by simp[World.setCell];exact h.sz,h.vs⟩
theorem ExW.below(h:ExW H U L A F ns Y D M B V d g Z o w R O w')(a:Below w'.1.size w' w2):ExW H U L A F ns Y D M B V d g Z o w R O w2:=h.b (Fd.of a) (h.fd.below a)
theorem ExW.four{a':NQ}{a b c:Option Addr}{c1 c2 c3:Nat}(h:ExW H U L A F ns Y D M B V d g Z (bMB a' a c1 b c2 c c3) w R O w'):w'.cell? ⟨w.1.size,0,none⟩=some (.bool d)/\w'.cell? ⟨w.1.size,1,none⟩=some (Qe g Z Z)/\w'.cell? ⟨w.1.size+1+1,10,none⟩=some (Qc a'.f)/\w'.cell? ⟨w.1.size+1+1,9,none⟩=some (Qc a'.ref):=
 ⟨(bKX h.q0).1,(bKX h.q0).2.1,Og h.q2 rfl,Og h.q2 rfl⟩
theorem ExW.fin(h:ExW H U L A F ns Y D M B V d g Z o w R O w')(u v:Value):bM4 H U L A F ns Y D M B V w ((w'.setCell ⟨w.1.size+1,0,none⟩ u).setCell ⟨w.1.size+1,1,none⟩ v):=by
 have b:∀ k,k≠w.1.size+1->((w'.setCell ⟨w.1.size+1,0,none⟩ u).setCell ⟨w.1.size+1,1,none⟩ v).1[k]?=w'.1[k]?:=fun k a=>(Om a).t (Om a);exact⟨h.fd.off (fun k f t a c=>b k (bEF a h.q1 c)),⟨h.fr.os,h.fr.tape,h.fr.output,by simp[World.setCell];exact h.fr.size,fun k a e=>(b k Oa).t (h.fr.keep k a e)⟩⟩
theorem WfK.ex(h:WfK L K i n)(j:cK n.d=0):∀ y∈n.c,ExK L K y:=by
 have k:=cK0 j;rcases h with⟨_,h⟩|⟨_,h⟩|⟨f,h⟩|⟨_,y,h,b⟩|⟨_,y,z,h,b,e⟩|⟨f,_⟩|⟨f,_⟩
 ·intro y c;rw[h]at c;cases c
 ·exact fun y c=>⟨(h y c).1,(h y c).2.2⟩
 ·omega
 ·intro x a;rw[h]at a;rw[List.mem_singleton.1 a];exact⟨b.1,b.2.2⟩
 ·intro x a;rw[h]at a;rcases List.mem_cons.1 a with rfl|a
  ·exact⟨b.1,b.2.2⟩
  ·rw[List.mem_singleton.1 a];exact⟨e.1,e.2.2⟩
 ·omega
 ·omega
end
set_option maxRecDepth 100000 in
set_option maxHeartbeats 16000000 in
theorem bOQ(hN:Nok S L A F Z ns K)(hO:bVB S L A F)(hZ:L.length<=100000)(_:A.length<=100000)(b8:F.length<=100000)(_:Z<=100000)(y7:ns<=1000000):∀ (a3:Nat) (y:Int) (d:Bool) (w:World),y.toNat < a3->ExK L K y->FdW H U L A F ns Y D M B V w->StW Z d g w->
 Calls prog 234 #[Qd U,stA d g Z,Qc y] w (bT6 H U L A F ns Y D M B V w):=by
 intro a3
 induction a3 with
 |zero=>intro y d w h;omega
 |succ a3 ih=>
  intro y d w hn hk hw hs;obtain⟨hk,a,c5,z5⟩:=hk;obtain⟨a',ha,k6,y5,k0⟩:=hN y hk;have e:a=a':=by have h1:=ha.2;have h2:=c5.2;rw[h1]at h2;exact(Oq h2).symm
  subst e
  have l8:a.c.length<=100000:=by
   have h0:=cK0 z5;rcases k6 with⟨_,h⟩|⟨h6,_⟩|⟨h9,_⟩|⟨_,y,h,_⟩|⟨_,y,n9,h,_⟩|⟨h9,_⟩|⟨h9,_⟩
   ·rw[h];exact Qn _
   ·obtain⟨x,n0,p0,p1,p2,p3⟩:=y5.2.2 h6;rw[<-p3];exact(hO.fn _ _ _ p1 p2).1
   ·omega
   ·rw[h];exact(by decide:1<=100000)
   ·rw[h];exact(by decide:2<=100000)
   ·omega
   ·omega
  obtain⟨n8,k9⟩:=hw.d;have d8:∀ k,B.ownBlock=some k->k < w.1.size:=fun k e=>bLP k9 e;have j8:=k9;clear k9;obtain⟨k,gr,n,C,c1,s,c2,u,c3,rfl,n2,rfl,m6,g0,e0,e1,e2,e3,e4,e5,e6,e7,e8,e9,b6⟩:=hw.Q ha;have i8:0<=(k:Int)/\(k:Int) < (L.length:Int):=Oa
  have b2:=Qp w _ g0;have b3:=Qp w _ e0;dsimp only at b2 b3;obtain⟨W1,y3⟩:∃ W1,W1=((w.alloc (stO d g Z)).alloc (rgO (0,0))).alloc (ndO a C c1 s c2 u c3):=⟨_,rfl⟩
  have kb:Below w.1.size w W1:=by
   rw[y3]
   repeat (first|exact Below.refl _ _|refine Below.alloc ?_ (by first|(simp;a4)|(simp;omega)) _)
  have kz:W1.1.size=w.1.size+3:=by rw[y3];simp only[hsz]
  have q0:W1.1[w.1.size]?=some (stO d g Z):=by
   rw[y3]
   repeat (first|rw[hal,if_neg (by simp only[hsz];omega)]|rw[hal,if_pos (by simp only[])])
  have q1:W1.1[w.1.size+1]?=some (rgO (0,0)):=by
   rw[y3]
   repeat (first|rw[hal,if_neg (by simp only[hsz];omega)]|rw[hal,if_pos (by simp only[hsz])])
  have q2:W1.1[w.1.size+1+1]?=some (bMB a C c1 s c2 u c3):=by
   rw[y3]
   repeat (first|rw[hal,if_neg (by simp only[hsz];omega)]|rw[hal,if_pos (by simp only[hsz])])
  have HW:Hid (W1=_):=y3;go_enter func234,ntmps234
  go_upto_region 2 with fail
  rw[<-HW.o];clear HW y3 g0 e0 e1 e2 e3 e4 e5 e6 e7 e8 e9 b6 b2 b3;have j:ExW H U L A F ns (Qe gr L.length n) D M B V d g Z (bMB a C c1 s c2 u c3) w [] (.slice none 0 0) W1:=⟨q0,q1,q2,⟨rfl,.l ⟨rfl,rfl⟩⟩,(fun r h=>by cases h),hw.below kb,Fd.of kb,Oa,d8⟩;clear q0 q1 q2 kb kz;obtain⟨i0,c9,f8,f9,i1⟩:=info_parts infoRg;go_wp2;go_loopg [8,9] (a.c.length+1) (fun a3 v8 v9 wr=>∃ R:List (Int × Int),v9= Qc (R.length:Nat)/\R.length+a3=a.c.length+1/\R.length<=a.c.length/\ExW H U L A F ns (Qe gr L.length n) D M B V d g Z (bMB a C c1 s c2 u c3) w R v8 wr)
  case atStart=>exact⟨[],rfl,Od,Od,j⟩
  case round=>
   clear j;obtain⟨R,rfl,m9,j0,j⟩:=hrel;obtain⟨ao,P,rfl,_⟩:=eQ j.row;have l5:wr.cell? ⟨w.1.size+1+1,5,none⟩=some (.slice C a.c.length c1):=Og j.q2 rfl
   by_cases hi:R.length < a.c.length
   ·have t0:decide ((R.length:Int) < (a.c.length:Int))=true:=by simp;omega
    obtain⟨b4,rfl⟩:=Oj gk;have c6:0<=(R.length:Int)/\(R.length:Int) < (a.c.length:Int):=Oa
    have n5:IntKind.i64.wrap ((R.length:Int)+1)=(R.length:Int)+1:=IntWalk.i64_in _ Oa;obtain⟨y,hy⟩:∃ y,a.c[R.length]?=some y:=⟨a.c[R.length],List.getElem?_eq_getElem _⟩;obtain⟨g6,i6,d9,j5,f2⟩:=bNN m6 hy;simp only[Value.slice.injEq]at d9;obtain⟨rfl,-,rfl⟩:=d9
    have g4:B.ownBlock≠some g6:=fun e=>by
     obtain⟨⟨c,hc⟩,_⟩:=bEH m6.k (k:=g6) rfl;exact bL5 j8 hc Ob e
    have j5:=(Qo (j.fr.keep g6 f2 g4)).t j5;have d4:=k6.ex z5 y (Qr hy);obtain⟨_,n3⟩:=k6.kid y (Qr hy);obtain⟨_,d5,_⟩:=hN y d4.1;have d5:=d5.1;obtain⟨s0,s1,_⟩:=bKX j.q0;have k8:∀ W:World,Below wr.1.size wr W->Calls prog 234 #[Qd U,stA d g Z,Qc y] W (bT6 H U L A F ns (Qe gr L.length n) D M B V W):=fun W p=>ih y d W Oa d4 (j.fd.below p) (hs.fd hw (j.fr.t (Fd.of p)));have d7:∀ k,B.ownBlock=some k->k < wr.1.size:=fun k e=>Nat.lt_of_lt_of_le (d8 k e) j.fr.size
    have a7:∀ W:World,Fd B (wr.alloc (rgO (0,0))).drew W->W.cell? ⟨wr.1.size,0,none⟩=some (Qc 0)/\W.cell? ⟨wr.1.size,1,none⟩=some (Qc 0)/\(∀ o,W.frozen? ⟨wr.1.size,o,none⟩=false)/\W.1[wr.1.size]?=some (rgO (0,0)):=fun W hF=>by
     have h:W.1[wr.1.size]?=some (rgO (0,0)):=(hF.keep _ (by show wr.1.size < (wr.alloc _).1.size;rw[hsz];omega) (fun e=>by have:=d7 _ e;omega)).t (Qk wr _);exact⟨(bL4 h).1,(bL4 h).2.1,(bL4 h).2.2,h⟩
    have n7:=j.sz;have z0:w.1.size < wr.1.size:=Oa
    have z2:w.1.size+1+1 < wr.1.size:=Oa
    have z6:g6 < wr.1.size:=Qp _ _ j5;have m4:(Value.slice ao R.length P).ownBlock≠some wr.1.size:=fun e=>by have:=bLP j.row e;omega
    have m:Hid (ExW H U L A F ns (Qe gr L.length n) D M B V d g Z (bMB a (some ⟨g6,0,none⟩) c1 s c2 u c3) w R (.slice ao R.length P) wr):=j;clear j ih;go_upto_region 6 with fail
    go_cut [10]from 25 to 36 (fun i2 T=>∃ (b:Nat) (r:Int × Int),i2= Qd b/\Rk r/\T.1[b]?=some (rgO r)/\ExW H U L A F ns (Qe gr L.length n) D M B V d g Z (bMB a (some ⟨g6,0,none⟩) c1 s c2 u c3) w R (.slice ao R.length P) T)
    case first=>
     go_region_with (go_at_call 234;refine(k8 _ (by repeat (first|exact Below.refl _ _|refine Below.drew ?_|refine Below.alloc ?_ Od _))).mono ?_;rintro e W ⟨⟨z,a1⟩,rfl,X,j3,y9⟩;try (have nn:=a7 W y9;obtain⟨n0,n1,nf,nr⟩:=nn))
     all_goals go_wp2
     all_goals go_meet
     all_goals first
      |exact⟨_,(z,a1),rfl,X,aM (o:=1) (Qc a1) (aM (o:=0) (Qc z) nr),(((m.o.below (by repeat (first|exact Below.refl _ _|refine Below.drew ?_|refine Below.alloc ?_ Od _))).b y9 j3).setB nr Oa m4 0 _).setB (aM (o:=0) (Qc z) nr) Oa m4 1 _⟩
      |exact⟨_,(z,a1),rfl,X,Qk W _,((m.o.below (by repeat (first|exact Below.refl _ _|refine Below.drew ?_|refine Below.alloc ?_ Od _))).b y9 j3).below ((Below.refl _ _).alloc Ol _)⟩
    case rest=>
     obtain⟨b,⟨z,a1⟩,rfl,X,hb,j⟩:=hcut;obtain⟨m0,m1,_⟩:=bL4 hb;have ho:=j.row;have n6:=j.sz;have b5:Hid (ExW H U L A F ns (Qe gr L.length n) D M B V d g Z (bMB a (some ⟨g6,0,none⟩) c1 s c2 u c3) w R (.slice ao R.length P) wc):=j;clear j m k8 a7 s0 s1 l5 j5 d7;go_wp2_with (at_builtin;refine wpList_append_lies _ rfl _ _ 228 rfl (w.1.size+3) 232 i0 _ 2 16 underlying228 c9 f8 f9 i1 rfl Oa (.slice ao R.length P) R.length (rgC R) rfl (ho.alloc _) ⟨wc.1.size,0,none⟩ 1 1 [Qc z,Qc a1] rfl rfl (World.news_of_block (cs:=#[Qc z,Qc a1]) (t:=232) (fr:=(0,0)) (Qk wc _)) (by simp[Value.oneCell']) Oa (by unfold maxLen;omega) Oa (by simp;omega) (wc.1.size+1) Od ?_;intro gg J w9 z3 z4 i7 n4)
     go_roundg b4
     case rel=>exact⟨R++[(z,a1)],Od,by simp;omega,by simp;omega,b5.o.push X z3 z4⟩
     case measure=>omega
   ·have t0:decide ((R.length:Int) < (a.c.length:Int))=false:=by simp;omega
    have b9:R.length=a.c.length:=Oa
    have g3:=hs.fd hw j.fr;obtain⟨s0,s1,_⟩:=bKX j.q0;obtain⟨x0,x1,xf⟩:=bL4 j.q1;have l0:wr.cell? ⟨w.1.size+1+1,0,none⟩=some (Qc a.d):=Og j.q2 rfl
    have l3:wr.cell? ⟨w.1.size+1+1,3,none⟩=some (Qc a.n):=Og j.q2 rfl
    have l9:wr.cell? ⟨w.1.size+1+1,9,none⟩=some (Qc a.ref):=Og j.q2 rfl
    have a5:wr.cell? ⟨w.1.size+1+1,10,none⟩=some (Qc a.f):=Og j.q2 rfl
    have m:Hid (ExW H U L A F ns (Qe gr L.length n) D M B V d g Z (bMB a C c1 s c2 u c3) w R (.slice ao R.length P) wr):=j;have k5:∀ (x y:Int),x≠y->(x==y)=false:=fun x y h=>by simp[h]
    have m8:=cK0 z5;have z1:w.1.size+1 < wr.1.size:=by have:=j.sz;omega
    clear j ih b9;cases d
    case true=>
     go_upto_region 10 with(go_at_call 235;refine(bPR a.f k0 y7 true true m.o.fd).mono ?_;rintro e W ⟨rfl,j3,y9⟩)
     have j:=m.o.b y9 j3;clear m s0 s1 x0 x1 xf l0 l3 l9 a5;have z1:=Nat.lt_of_lt_of_le z1 y9.size;obtain⟨x0,x1,xf⟩:=bL4 j.q1;go_wp2_with (go_at_call 111;refine(bOH _).mono ?_;rintro e W9 ⟨rfl,p⟩;obtain⟨hc,hf⟩:=bNB p)
     exact bodyPost_ret (v:=rgA (-9223372036854775808,9223372036854775807)) (by simp[results,results234,go_sem,*]) rfl ⟨_,rfl,(by unfold Rk;omega),(j.below p).fin _ _⟩
    by_cases h3:a.d=3
    ·have t3:(a.d==3)=true:=by simp[h3]
     have l4:-999999999<=a.n/\a.n<=999999999:=by
      rcases k6 with⟨⟨_,h⟩|h,_⟩|⟨h,_⟩|⟨h,_⟩|⟨h,_⟩|⟨h,_⟩|⟨h,_⟩|⟨h,_⟩
      ·exact h
      all_goals omega
     go_wp2;exact bodyPost_ret (v:=rgA (a.n,a.n)) (by simp[results,results234,go_sem,*]) rfl ⟨_,rfl,(by unfold Rk;dsimp only;omega),m.o.fin _ _⟩
    have t3:=k5 _ _ h3
    by_cases h4:a.d=4
    ·have t4:(a.d==4)=true:=by simp[h4]
     obtain⟨o1,o2⟩:=y5.1 (.l h4);obtain⟨i,hi⟩:=Int.eq_ofNat_of_zero_le o1;obtain⟨r,c0,a8,X⟩:=g3.get (i:=i) Oa;have c6:0<=(i:Int)/\(i:Int) < (Z:Int):=Oa
     rw[hi]at l9;have hR:=X rfl;clear X;go_wp2;exact bodyPost_ret (v:=rgA r) (by simp[results,results234,go_sem,*]) rfl ⟨r,rfl,hR,m.o.fin _ _⟩
    have t4:=k5 _ _ h4
    by_cases h7:a.d=7
    ·have t7:(a.d==7)=true:=by simp[h7]
     obtain⟨y1,j7,_⟩:=k6.one (.r (.l h7));have m7:R.length=1:=by rw[show R.length=a.c.length by omega,j7];rfl
     obtain⟨l,cv,⟨z,a1⟩,f6,hv,c0,a8,l6⟩:=bP3 m.o.row (i:=0) Oa;simp only[Value.slice.injEq]at hv;obtain⟨rfl,-,rfl⟩:=hv;have X:=m.o.rk _ (Qr f6);have b1:(0:Int) < (R.length:Int):=Oa
     unfold Rk at X;dsimp only at X c0 a8
     by_cases hm:z= -9223372036854775808
     ·have tm:(z==-9223372036854775808)=true:=by simp[hm]
      go_wp2_with (go_at_call 111;refine(bOH _).mono ?_;rintro e W9 ⟨rfl,p⟩;obtain⟨hc,hf⟩:=bNB p)
      exact bodyPost_ret (v:=rgA (-9223372036854775808,9223372036854775807)) (by simp[results,results234,go_sem,*]) rfl ⟨_,rfl,(by unfold Rk;omega),(m.o.below p).fin _ _⟩
     ·have tm:=k5 _ _ hm;have w1:IntKind.i64.wrap (-z)= -z:=IntWalk.i64_in _ Oa;have w2:IntKind.i64.wrap (-a1)= -a1:=IntWalk.i64_in _ Oa;go_upto_region 19 with fail
      go_region
      all_goals go_wp2
      all_goals exact bodyPost_ret (v:=rgA (-a1,-z)) (by simp[results,results234,go_sem,*]) rfl ⟨_,rfl,(by unfold Rk;dsimp only;omega),((m.o.below (Below.refl _ _).drew)).fin _ _⟩
    have t7:=k5 _ _ h7;have j1:R.length=a.c.length:=Oa
    have y4:Hid (ExW H U L A F ns (Qe gr L.length n) D M B V false g Z (bMB a C c1 s c2 u c3) w R (.slice ao R.length P) wr.drew):=m.o.below (Below.refl _ _).drew
    by_cases h5:a.d=5
    ·have t5:(a.d==5)=true:=by simp[h5]
     obtain⟨y1,j7,_⟩:=k6.one (.l h5);have m7:R.length=1:=by rw[j1,j7];rfl
     obtain⟨l,cv,⟨ra,N⟩,j4,hv,_,_,_⟩:=bP3 m.o.row (i:=0) Oa;simp only[Value.slice.injEq]at hv;obtain⟨rfl,-,rfl⟩:=hv;obtain⟨o1,o2⟩:=y5.2.1 (.l h5);obtain⟨f,hf⟩:=Int.eq_ofNat_of_zero_le o1;obtain⟨xa,j9⟩:∃ xa,A[f]?=some xa:=⟨A[f]'Oa,List.getElem?_eq_getElem _⟩;obtain⟨na,g5⟩:=hO.arr f xa j9;obtain⟨ga,ca,rfl,_⟩:=bLE m.o.fd.arrs j9;obtain⟨ka,rfl⟩:=Int.eq_ofNat_of_zero_le g5.1;have l7:ka < L.length:=by have:=(List.getElem?_eq_some_iff.1 g5.2).1;simpa using this
     obtain⟨E,j⟩:∃ E:World->Prop,E=ExW H U L A F ns (Qe gr L.length n) (Qe ga A.length ca) M B V false g Z (bMB a C c1 s c2 u c3) w R (Qe l R.length P):=⟨_,rfl⟩;have E0:E wr.drew:=by rw[j];exact y4.o
     have q:∀ W,E W->ExW H U L A F ns (Qe gr L.length n) (Qe ga A.length ca) M B V false g Z (bMB a C c1 s c2 u c3) w R (Qe l R.length P) W:=fun W h=>by rw[j]at h;exact h
     have y8:∀ x:Cls E,FdW H U L A F ns (Qe gr L.length n) (Qe ga A.length ca) M B V x.w:=fun x=>(q _ x.h).fd;have y6:∀ (x:Cls E) W,bM4 H U L A F ns (Qe gr L.length n) (Qe ga A.length ca) M B V x.w W->E W:=fun x W Q=>by rw[j];exact(q _ x.h).b Q.2 Q.1
     have hx:∀ x:Cls E,(x.w.cell? ⟨w.1.size,0,none⟩=some (.bool false)/\x.w.cell? ⟨w.1.size,1,none⟩=some (Qe g Z Z)/\x.w.cell? ⟨w.1.size+1+1,10,none⟩=some (Qc a.f)/\x.w.cell? ⟨w.1.size+1+1,9,none⟩=some (Qc (f:Int)))/\x.w.cell? ⟨l,0,none⟩=some (Qc ra)/\x.w.cell? ⟨l,1,none⟩=some (Qc N)/\x.w.cell? ⟨U,0,none⟩=some (Qe gr L.length n)/\x.w.cell? ⟨U,2,none⟩=some (Qe ga A.length ca)/\x.w.cell? ⟨ga,f,none⟩=some (Qc (ka:Int))/\x.w.cell? ⟨gr,ka*11+3,none⟩=some (Qc na.n):=fun x=>by
      have h:=q _ x.h;obtain⟨g1,k1,z1,e1,v1,d0,d1,_⟩:=bP3 h.row (i:=0) Oa;rw[j4]at e1;obtain rfl:=Oq e1;simp only[Value.slice.injEq,Option.some.injEq,Addr.mk.injEq]at v1;obtain⟨⟨rfl,-⟩,-⟩:=v1;obtain⟨g2,k2,v2,d2⟩:=bLE h.fd.arrs j9;simp only[Value.slice.injEq,Option.some.injEq,Addr.mk.injEq]at v2;obtain⟨⟨rfl,-⟩,-⟩:=v2;obtain⟨k',g',i5,_,_,_,_,_,_,e3,_,e4,_,e5,⟨_,_,_,d3,_⟩⟩:=h.fd.Q g5;obtain rfl:=Int.ofNat.inj e3;simp only[Value.slice.injEq,Option.some.injEq,Addr.mk.injEq]at e4;obtain⟨⟨rfl,-⟩,-,rfl⟩:=e4;obtain⟨vI,b4,Q⟩:=h.fd.prog;have h4:=h.four;rw[hf]at h4;exact⟨h4,d0,d1,e5,Og Q rfl,d2,d3⟩
     have b1:(0:Int) < (R.length:Int):=Oa
     have i9:0<=(f:Int)/\(f:Int) < (A.length:Int):=Oa
     have k3:0<=(ka:Int)/\(ka:Int) < (L.length:Int):=Oa
     have a4:∀ W,E W->∀ a2 v,bT6 H U L A F ns (Qe gr L.length n) (Qe ga A.length ca) M B V w (.returned (rgA (-9223372036854775808,9223372036854775807))) ((W.setCell ⟨w.1.size+1,0,none⟩ a2).setCell ⟨w.1.size+1,1,none⟩ v):=fun W h a2 v=>⟨_,rfl,(by unfold Rk;omega),(q W h).fin _ _⟩;have z7:∀ W,E W->(W.cell? ⟨w.1.size+1,0,none⟩=some (Qc 0)/\W.cell? ⟨w.1.size+1,1,none⟩=some (Qc 0)/\∀ o,W.frozen? ⟨w.1.size+1,o,none⟩=false)/\w.1.size+1 < W.1.size/\∀ W2,Below W.1.size W W2->E W2:=fun W h=>⟨bL4 (q W h).q1,Oi ((q W h).sz),fun W2 p=>by rw[j];exact(q W h).below p⟩;clear m7 j1 m9 j0 k6 y5 x0 x1 xf g3 z5 m8 j m y4;go_upto_region 21 with fail
     clear s0 s1 l0 l3 l9 a5
     by_cases hq:0<=ra
     ·have tq:decide (ra≥0)=true:=by simp[hq]
      have a6:decide (0<=ra)=true:=by simp[hq]
      refine bO0 (E:=E) (by kernel_rfl) (by kernel_rfl) E0 (fun k5=>?_)
      repeat (go_big_quiet_step ((go_at_call 235;refine(bPR a.f k0 y7 false _ (y8 _)).mono ?_;rintro e W ⟨rfl,Q⟩;exact⟨rfl,⟨W,y6 _ _ Q⟩,rfl⟩)))
      refine wpQuiet_nil ?_;rintro W ⟨⟨_,hW⟩,rfl⟩;obtain⟨⟨x0,x1,xf⟩,z1,j2⟩:=z7 _ hW;go_wp2_with (go_at_call 111;refine(bOH _).mono ?_;rintro e W9 ⟨rfl,p⟩;obtain⟨hc,hf⟩:=bNB p)
      exact bodyPost_ret (v:=rgA (-9223372036854775808,9223372036854775807)) (by simp[results,results234,go_sem,*]) rfl (a4 _ (j2 _ p) _ _)
     ·have tq:decide (ra≥0)=false:=by simp[hq]
      have a6:decide (0<=ra)=false:=by simp[hq]
      refine bO0 (E:=E) (by kernel_rfl) (by kernel_rfl) E0 (fun k5=>?_)
      repeat (go_big_quiet_step ((go_at_call 235;refine(bPR a.f k0 y7 false _ (y8 _)).mono ?_;rintro e W ⟨rfl,Q⟩;exact⟨rfl,⟨W,y6 _ _ Q⟩,rfl⟩)))
      refine wpQuiet_nil ?_;rintro W ⟨⟨_,hW⟩,rfl⟩;obtain⟨⟨x0,x1,xf⟩,z1,j2⟩:=z7 _ hW;go_wp2_with (go_at_call 111;refine(bOH _).mono ?_;rintro e W9 ⟨rfl,p⟩;obtain⟨hc,hf⟩:=bNB p)
      exact bodyPost_ret (v:=rgA (-9223372036854775808,9223372036854775807)) (by simp[results,results234,go_sem,*]) rfl (a4 _ (j2 _ p) _ _)
    have t5:=k5 _ _ h5
    by_cases h6:a.d=6
    ·have t6:(a.d==6)=true:=by simp[h6]
     obtain⟨i3,n0,o1,p1,p2,p3⟩:=y5.2.2 h6;obtain⟨_,a9,c8,k4⟩:=hO.fn _ _ _ p1 p2;obtain⟨f,hf⟩:=Int.eq_ofNat_of_zero_le o1;rw[hf]at l9 p1;simp only[Int.toNat_natCast]at p1
     have k4:∀ c∈a9.e,bYO L R.length c:=fun c hc=>by
      rw[j1,<-p3];exact k4 c hc
     have S0:Hid _:=m.o.four;rw[hf]at S0
     have k7:∀ W,ExW H U L A F ns (Qe gr L.length n) D M B V false g Z (bMB a C c1 s c2 u c3) w R (.slice ao R.length P) W->W.cell? ⟨w.1.size,0,none⟩=some (.bool false)/\W.cell? ⟨w.1.size,1,none⟩=some (Qe g Z Z)/\W.cell? ⟨w.1.size+1+1,10,none⟩=some (Qc a.f)/\W.cell? ⟨w.1.size+1+1,9,none⟩=some (Qc (f:Int)):=fun W h=>by
      have:=h.four;rw[hf]at this;exact this
     clear S0 j1;go_upto_region 24 with fail
     clear x0 x1 xf l0 l3 l5
     go_region_held3 (fun T=>T.cell? ⟨w.1.size,0,none⟩=some (.bool false)/\T.cell? ⟨w.1.size,1,none⟩=some (Qe g Z Z)/\T.cell? ⟨w.1.size+1+1,10,none⟩=some (Qc a.f)/\T.cell? ⟨w.1.size+1+1,9,none⟩=some (Qc (f:Int)))
      (first
        |exact G.o
        |exact S2.o
        |(refine⟨?_,?_,?_,?_⟩<;>assumption)
        |go_keep)
      (first
        |(go_at_call 235;refine(bPR a.f k0 y7 false ok g8.o.fd).mono ?_;rintro e Wb ⟨rfl,f7,c7⟩;have j6:Hid (ExW H U L A F ns (Qe gr L.length n) D M B V false g Z (bMB a C c1 s c2 u c3) w R (.slice ao R.length P) Wb):=g8.o.b c7 f7;have S2:Hid _:=k7 Wb j6.o)
        |(go_at_call 294;refine(bYR hZ b8 f i3 a9 p1 c8 R k4 _ y4.o.fd y4.o.row).mono ?_;rintro e Wa ⟨ok,rfl,b7⟩;have g8:Hid (ExW H U L A F ns (Qe gr L.length n) D M B V false g Z (bMB a C c1 s c2 u c3) w R (.slice ao R.length P) Wa):=y4.o.below b7;have G:Hid _:=k7 Wa g8.o))
     obtain⟨x0,x1,xf⟩:=bL4 j6.o.q1;have z1:w.1.size+1 < Wb.1.size:=by have:=j6.o.sz;omega
     go_wp2_with (go_at_call 111;refine(bOH _).mono ?_;rintro e W9 ⟨rfl,p⟩;obtain⟨hc,hf⟩:=bNB p)
     exact bodyPost_ret (v:=rgA (-9223372036854775808,9223372036854775807)) (by simp[results,results234,go_sem,*]) rfl ⟨_,rfl,(by unfold Rk;omega),(j6.o.below p).fin _ _⟩
    have t6:=k5 _ _ h6;have h8:a.d=8:=Oa
    obtain⟨y1,y2,g9,_⟩:=k6.two (.l h8);have f1:R.length=2:=by rw[show R.length=a.c.length by omega,g9];rfl
    obtain⟨l,cv,⟨ra,N⟩,j4,hv,_,_,_⟩:=bP3 m.o.row (i:=0) Oa;obtain⟨_,_,⟨qa,qb⟩,m5,_,_,_,_⟩:=bP3 m.o.row (i:=1) Oa;simp only[Value.slice.injEq]at hv;obtain⟨rfl,-,rfl⟩:=hv
    have y0:∀ W,ExW H U L A F ns (Qe gr L.length n) D M B V false g Z (bMB a C c1 s c2 u c3) w R (Qe l R.length P) W->W.cell? ⟨l,0,none⟩=some (Qc ra)/\W.cell? ⟨l,1,none⟩=some (Qc N)/\W.cell? ⟨l,2,none⟩=some (Qc qa)/\W.cell? ⟨l,3,none⟩=some (Qc qb):=fun W h=>by
     obtain⟨g1,k1,z1,e1,v1,d0,d1,_⟩:=bP3 h.row (i:=0) Oa;obtain⟨g2,k2,z2,e2,v2,d2,d3,_⟩:=bP3 h.row (i:=1) Oa;rw[j4]at e1;rw[m5]at e2;obtain rfl:=Oq e1;obtain rfl:=Oq e2;simp only[Value.slice.injEq,Option.some.injEq,Addr.mk.injEq]at v1 v2;obtain⟨⟨rfl,-⟩,-⟩:=v1;obtain⟨⟨rfl,-⟩,-⟩:=v2;exact⟨d0,d1,d2,d3⟩
    have f5:=m.o.rk _ (Qr j4);have f4:=m.o.rk _ (Qr m5);obtain⟨E,j⟩:∃ E:World->Prop,E=ExW H U L A F ns (Qe gr L.length n) D M B V false g Z (bMB a C c1 s c2 u c3) w R (Qe l R.length P):=⟨_,rfl⟩;have E0:E wr.drew:=by rw[j];exact y4.o
    have q:∀ W,E W->ExW H U L A F ns (Qe gr L.length n) D M B V false g Z (bMB a C c1 s c2 u c3) w R (Qe l R.length P) W:=fun W h=>by rw[j]at h;exact h
    have y8:∀ x:Cls E,FdW H U L A F ns (Qe gr L.length n) D M B V x.w:=fun x=>(q _ x.h).fd;have y6:∀ (x:Cls E) W,bM4 H U L A F ns (Qe gr L.length n) D M B V x.w W->E W:=fun x W Q=>by rw[j];exact(q _ x.h).b Q.2 Q.1
    have d6:∀ W,E W->(W.cell? ⟨w.1.size+1+1,2,none⟩=some (.string a.s)/\W.cell? ⟨l,0,none⟩=some (Qc ra)/\W.cell? ⟨l,1,none⟩=some (Qc N)/\W.cell? ⟨l,2,none⟩=some (Qc qa)/\W.cell? ⟨l,3,none⟩=some (Qc qb)):=fun W h=>⟨Og (q W h).q2 rfl,y0 W (q W h)⟩;have hx:∀ x:Cls E,(x.w.cell? ⟨w.1.size,0,none⟩=some (.bool false)/\x.w.cell? ⟨w.1.size,1,none⟩=some (Qe g Z Z)/\x.w.cell? ⟨w.1.size+1+1,10,none⟩=some (Qc a.f)/\x.w.cell? ⟨w.1.size+1+1,9,none⟩=some (Qc a.ref))/\x.w.cell? ⟨l,0,none⟩=some (Qc ra)/\x.w.cell? ⟨l,1,none⟩=some (Qc N)/\x.w.cell? ⟨l,2,none⟩=some (Qc qa)/\x.w.cell? ⟨l,3,none⟩=some (Qc qb):=fun x=>⟨(q _ x.h).four,y0 _ (q _ x.h)⟩;have z7:∀ W,E W->(W.cell? ⟨w.1.size+1,0,none⟩=some (Qc 0)/\W.cell? ⟨w.1.size+1,1,none⟩=some (Qc 0)/\∀ o,W.frozen? ⟨w.1.size+1,o,none⟩=false)/\∀ W2,Below W.1.size W W2->E W2:=fun W h=>⟨bL4 (q W h).q1,fun W2 p=>by rw[j];exact(q W h).below p⟩;have a4:∀ W,E W->∀ r:Int × Int,Rk r->∀ a2 v,bT6 H U L A F ns (Qe gr L.length n) D M B V w (.returned (rgA r)) ((W.setCell ⟨w.1.size+1,0,none⟩ a2).setCell ⟨w.1.size+1,1,none⟩ v):=fun W h r X a2 v=>⟨r,rfl,X,(q W h).fin _ _⟩;have I:∀ b,b≠w.1.size+1->∀ o a2 v (W:World),((W.setCell ⟨w.1.size+1,0,none⟩ a2).setCell ⟨w.1.size+1,1,none⟩ v).cell? ⟨b,o,none⟩=W.cell? ⟨b,o,none⟩:=fun b h o a2 v W=>(bN0 h).t (bN0 h);have z8:w.1.size+1+1≠w.1.size+1:=Oa
    have z9:l≠w.1.size+1:=by have:=(bEH m.o.row (k:=l) rfl).2;omega
    have b1:(0:Int) < (R.length:Int):=Oa
    have l1:(1:Int) < (R.length:Int):=Oa
    clear j1 f1 m9 j0 k6 y5 x0 x1 xf g3 h8 g9 h3 h4 h5 h6 h7 z5 m8 j m y4 y0;go_upto_region 26 with fail
    clear s0 s1 l0 l3 l9 a5;have i4:Hid (∀ W,E W->True):=fun _ _=>trivial;go_cut []from 129 to 154 (fun T=>E T)
    case first=>
     by_cases hq:0 < qa
     ·have tq:decide (qa > 0)=true:=by simp[hq]
      have a6:decide (0 < qa)=true:=by simp[hq]
      refine bO0 (E:=E) (by kernel_rfl) (by kernel_rfl) E0 (fun k5=>?_)
      repeat (go_big_quiet_step ((go_at_call 235;refine(bPR a.f k0 y7 false _ (y8 _)).mono ?_;rintro e W ⟨rfl,Q⟩;exact⟨rfl,⟨W,y6 _ _ Q⟩,rfl⟩)))
      refine wpQuiet_nil ?_;rintro W ⟨⟨_,hW⟩,rfl⟩;go_wp2;go_meet;exact hW
     ·have tq:decide (qa > 0)=false:=by simp[hq]
      have a6:decide (0 < qa)=false:=by simp[hq]
      refine bO0 (E:=E) (by kernel_rfl) (by kernel_rfl) E0 (fun k5=>?_)
      repeat (go_big_quiet_step ((go_at_call 235;refine(bPR a.f k0 y7 false _ (y8 _)).mono ?_;rintro e W ⟨rfl,Q⟩;exact⟨rfl,⟨W,y6 _ _ Q⟩,rfl⟩)))
      refine wpQuiet_nil ?_;rintro W ⟨⟨_,hW⟩,rfl⟩;go_wp2;go_meet;exact hW
    case rest=>
     have hW:Hid (E wc):=hcut;obtain⟨⟨x0,x1,xf⟩,j2⟩:=z7 _ hW.o;obtain⟨s2,m0,m1,m2,m3⟩:=d6 _ hW.o;clear hcut hx E0 q y8 y6;generalize R.length=rl at*;have l2:0 < rl/\1 < rl/\rl≠0:=Oa
     clear l5;go_upto_region 27 with fail
     go_region_held3 (fun T=>T.cell? ⟨w.1.size+1+1,2,none⟩=some (.string a.s)/\T.cell? ⟨l,0,none⟩=some (Qc ra)/\T.cell? ⟨l,1,none⟩=some (Qc N)/\T.cell? ⟨l,2,none⟩=some (Qc qa)/\T.cell? ⟨l,3,none⟩=some (Qc qb))
      (first
        |exact G.o
        |(refine⟨?_,?_,?_,?_,?_⟩<;>assumption)
        |exact(let⟨p1,p2,p3,p4,p5⟩:=G.o;⟨(I _ z8 _ _ _ _).t p1,(I _ z9 _ _ _ _).t p2,(I _ z9 _ _ _ _).t p3,(I _ z9 _ _ _ _).t p4,(I _ z9 _ _ _ _).t p5⟩))
      ((go_at_call 232;refine(bT8 _ (ra,N) (qa,qb) _ f5 f4).mono ?_;rintro e Wd ⟨⟨z,a1⟩,rfl,X,Bd⟩;have g7:Hid (E Wd):=j2 _ ((Below.refl _ _).drew.t Bd);have G:Hid _:=d6 Wd g7.o;obtain⟨⟨x0,x1,xf⟩,-⟩:=z7 _ g7.o))
     go_wp2;exact bodyPost_ret (v:=rgA (z,a1)) (by simp[results,results234,go_sem,*]) rfl (a4 _ g7.o _ X _ _)
end
section
variable {H U:Nat} {L S:List NQ} {A F:List Int} {ns Z g:Nat} {Y D M B:Value} {V:List V3} {K:Int->Prop}
def In(E:World->Prop)(w:World):Prop:=E w
def KdK(L:List NQ)(K:Int->Prop)(c:Nat)(y:Int):Prop:=K y/\∃ a,Ndq L y a/\cK a.d=c
structure Bw(H U:Nat)(L:List NQ)(A F:List Int)(ns:Nat)(Y D M B:Value)(V:List V3)(w W:World):Prop where
 f0:FdW H U L A F ns Y D M B V w
 fd:FdW H U L A F ns Y D M B V W
 fr:Fd B w W
section
variable {w W W2:World} {b:Nat} {o:Obj} {cs:Array Value} {t:TypeId}
theorem Bw.start(a:FdW H U L A F ns Y D M B V w):Bw H U L A F ns Y D M B V w w:=⟨a,a,Fd.refl _ _⟩
theorem Bw.vs(h:Bw H U L A F ns Y D M B V w W):∀ k,B.ownBlock=some k->k < w.1.size:=by
 obtain⟨c,a⟩:=h.f0.d;exact fun k e=>bLP a e
theorem Bw.b(h:Bw H U L A F ns Y D M B V w W)(a:bM4 H U L A F ns Y D M B V W W2):Bw H U L A F ns Y D M B V w W2:=⟨h.f0,a.1,h.fr.t a.2⟩
theorem Bw.post(h:Bw H U L A F ns Y D M B V w W)(a:Below W.1.size W W2):bM4 H U L A F ns Y D M B V W W2:=⟨h.fd.below a,Fd.of a⟩
theorem Bw.below(h:Bw H U L A F ns Y D M B V w W)(a:Below W.1.size W W2):Bw H U L A F ns Y D M B V w W2:=h.b (h.post a)
theorem Bw.box(h:Bw H U L A F ns Y D M B V w W)(a:Fd B W W2)(c:w.1.size<=b)(q:W.1[b]?=some o):W2.1[b]?=some o:=
 (a.keep b Qg (fun e=>by have:=h.vs b e;omega)).t q
theorem Bw.set(h:Bw H U L A F ns Y D M B V w W)(q:w.1.size<=b)(j:Nat)(u:Value):Bw H U L A F ns Y D M B V w (W.setCell ⟨b,j,none⟩ u):=by
 have e:∀ k,k < w.1.size->(W.setCell ⟨b,j,none⟩ u).1[k]?=W.1[k]?:=(by grind[Below.heap_setCell]);obtain⟨y,x,s⟩:=h.fd.prog;obtain⟨_,_,v⟩:=h.f0.prog;obtain⟨p,m⟩:=h.fd.d
 exact⟨h.f0,⟨Qg,cD h.fd.nodes (fun k a=>e k (bLP h.f0.nodes a)),cD h.fd.arrs (fun k a=>e k (bLP h.f0.arrs a)),cD h.fd.fns (fun k a=>e k (bLP h.f0.fns a)),⟨p,cD m (fun k a=>e k (h.vs k a))⟩,h.fd.c.move (fun k l=>by
  obtain⟨⟨c,r⟩,_⟩:=h.f0.c.typ l
  grind)⟩,⟨h.fr.os,h.fr.tape,h.fr.output,by simp[World.setCell];exact h.fr.size,fun k a f=>(e k a).t (h.fr.keep k a f)⟩⟩
theorem bN8{x y u v:Value}(q:W.1[b]?=some (Qf #[x,y] t)):((W.setCell ⟨b,0,none⟩ u).setCell ⟨b,1,none⟩ v).1[b]?=some (Qf #[u,v] t):=aM (o:=1) v (aM (o:=0) u q)
theorem StW.set{d:Bool}(h:StW Z d g W)(q:W.1[b]?=some (.cells cs 230 (0,0)))(j:Nat)(u:Value):StW Z d g (W.setCell ⟨b,j,none⟩ u):=h.move (Om (h.ne q))
theorem Bw.kid(h:Bw H U L A F ns Y D M B V w W){a:NQ}{m r s:Value}(l:NdW H w a (m,r,s)){i:Nat}{y:Int}(q:a.c[i]?=some y):∃ f J,m= Qe f a.c.length J/\W.cell? ⟨f,i,none⟩=some (Qc y):=by
 obtain⟨f,J,e,j,p⟩:=bNN l q;obtain⟨x,v⟩:=h.f0.d;refine⟨f,J,e,(Qo (h.fr.keep f p (fun u=>?_))).t j⟩;obtain⟨⟨c,j⟩,_⟩:=bEH l.k (k:=f) (by rw[e];rfl)
 grind[bL5]
theorem StW.al{d:Bool}(h:StW Z d g W):StW Z d g (W.alloc o):=h.below ((Below.refl _ _).alloc Oa _)
theorem StW.set2{d:Bool}(h:StW Z d g W){x y:Value}(q:W.1[b]?=some (Qf #[x,y] 230))(u v:Value):StW Z d g ((W.setCell ⟨b,0,none⟩ u).setCell ⟨b,1,none⟩ v):=(h.set q 0 u).set (aM (o:=0) u q) 1 v
end
structure Ck(H U:Nat)(L:List NQ)(A F:List Int)(ns:Nat)(Y D M B:Value)(V:List V3)(N:Nat)(E:World->Prop):Prop where
 fd:∀ W,In E W->FdW H U L A F ns Y D M B V W
 nx:∀ W W2,In E W->bM4 H U L A F ns Y D M B V W W2->In E W2
 far:∀ W b x y u v,In E W->N<=b->W.1[b]?=some (Qf #[x,y] 230)->In E ((W.setCell ⟨b,0,none⟩ u).setCell ⟨b,1,none⟩ v)
 far2:∀ W C b j u,In E W->In E C->C.1.size<=b->In E (W.setCell ⟨b,j,none⟩ u)
 sz:∀ W,In E W->N<=W.1.size
 vs:∀ k,B.ownBlock=some k->k < N
def Two(N Z:Nat)(E:World->Prop)(O:Bool)(G:Nat)(P:Bool)(Q:Nat)(v9 v10:Value)(W:World):Prop:=∃ b9 I,v9= Qd b9/\v10= Qd I/\(N<=b9/\N<=I)/\W.1[b9]?=some (stO O G Z)/\W.1[I]?=some (stO P Q Z)/\In E W/\StW Z O G W/\StW Z P Q W
section
variable {N:Nat} {E:World->Prop} {W C W2:World} {b c:Nat} {o:Obj} {O P:Bool} {G Q:Nat}
theorem Ck.be(h:Ck H U L A F ns Y D M B V N E)(e:In E W)(a:Below W.1.size W W2):In E W2:=h.nx _ _ e ⟨(h.fd _ e).below a,Fd.of a⟩
theorem Ck.dr(h:Ck H U L A F ns Y D M B V N E)(a:In E W):In E W.drew:=h.be a (Below.refl _ _).drew
theorem Ck.al(h:Ck H U L A F ns Y D M B V N E)(a:In E W)(o:Obj):In E (W.alloc o):=h.be a ((Below.refl _ _).alloc Oa _)
theorem Ck.box(h:Ck H U L A F ns Y D M B V N E)(a:bM4 H U L A F ns Y D M B V W W2)(f:N<=b)(q:W.1[b]?=some o):W2.1[b]?=some o:=
 (a.2.keep b Qg (fun e=>by have:=h.vs b e;omega)).t q
theorem Ck.one(h:Ck H U L A F ns Y D M B V N E)(a:In E C)(e:bM4 H U L A F ns Y D M B V (C.alloc o).drew W2):W2.1[C.1.size]?=some o/\C.1.size < W2.1.size:=by
 have n:=h.box e (h.sz _ a) (Qk C o)
 grind
theorem Ck.two(h:Ck H U L A F ns Y D M B V N E)(a:In E C)(e:bM4 H U L A F ns Y D M B V ((C.alloc noO).alloc noO).drew W2):W2.1[C.1.size]?=some noO/\W2.1[C.1.size+1]?=some noO/\C.1.size < W2.1.size:=by
 have j:=h.box (b:=C.1.size+1) e (Nat.le_succ_of_le (h.sz _ a)) (by have:=Qk (C.alloc noO) noO;rwa [hsz]at this);have f:=h.box e (h.sz _ a) ((On Od).t (Qk C noO))
 grind
theorem Ck.way1(h:Ck H U L A F ns Y D M B V N E)(a:In E W)(e:StW Z O G W)(f:StW Z P Q W):Two N Z E O G P Q (Qd W.1.size) (Qd (W.1.size+1)) ((W.alloc (stO O G Z)).alloc (stO P Q Z)):=
 ⟨_,_,rfl,rfl,⟨h.sz _ a,Nat.le_succ_of_le (h.sz _ a)⟩,(by grind[Below.heap_alloc,heap_alloc_new]),by have:=Qk (W.alloc (stO O G Z)) (stO P Q Z);rwa [hsz]at this,h.al (h.al a _) _,e.al.al,f.al.al⟩
theorem Ck.way2(h:Ck H U L A F ns Y D M B V N E)(a:In E W)(e:StW Z O G W)(f:StW Z P Q W):Two N Z E O G P Q (Qd (W.1.size+1)) (Qd W.1.size) ((W.alloc (stO P Q Z)).alloc (stO O G Z)):=
 ⟨_,_,rfl,rfl,⟨Nat.le_succ_of_le (h.sz _ a),h.sz _ a⟩,by have:=Qk (W.alloc (stO P Q Z)) (stO O G Z);rwa [hsz]at this,(by grind[Below.heap_alloc,heap_alloc_new]),h.al (h.al a _) _,e.al.al,f.al.al⟩
theorem Ck.way3(h:Ck H U L A F ns Y D M B V N E)(f:In E W)(a:StW Z O G W)(e:StW Z P Q W)(j:N<=c)(n:W.1[c]?=some noO):Two N Z E O G P Q (Qd c) (Qd W.1.size) (((W.setCell ⟨c,0,none⟩ (.bool O)).setCell ⟨c,1,none⟩ (Qe G Z Z)).alloc (stO P Q Z)):=
 have k:=(Oo n);have l:∀ u v:Value,((W.setCell ⟨c,0,none⟩ u).setCell ⟨c,1,none⟩ v).1.size=W.1.size:=Od
 ⟨_,_,rfl,rfl,Oa,(by grind[Below.heap_alloc,bN8]),by have:=Qk ((W.setCell ⟨c,0,none⟩ (.bool O)).setCell ⟨c,1,none⟩ (Qe G Z Z)) (stO P Q Z);grind,h.al (h.far _ _ _ _ _ _ f j n) _,(a.set2 n _ _).al,(e.set2 n _ _).al⟩
theorem Ck.way4(h:Ck H U L A F ns Y D M B V N E)(q:In E W)(j:StW Z O G W)(k:StW Z P Q W)(r:N<=c)(n:W.1[c]?=some noO):Two N Z E O G P Q (Qd W.1.size) (Qd c) (((W.setCell ⟨c,0,none⟩ (.bool P)).setCell ⟨c,1,none⟩ (Qe Q Z Z)).alloc (stO O G Z)):=by
 obtain⟨a,I,e,f,⟨v,x⟩,s,u,l,m,p⟩:=h.way3 q k j r n;exact⟨I,a,f,e,⟨x,v⟩,u,s,l,p,m⟩
theorem Ck.way5(h:Ck H U L A F ns Y D M B V N E)(p:In E W)(f:StW Z O G W)(j:StW Z P Q W)(q:N<=b)(r:N<=c)(e:b≠c)(n:W.1[b]?=some noO)(m:W.1[c]?=some noO):Two N Z E O G P Q (Qd b) (Qd c) ((((W.setCell ⟨b,0,none⟩ (.bool O)).setCell ⟨b,1,none⟩ (Qe G Z Z)).setCell ⟨c,0,none⟩ (.bool P)).setCell ⟨c,1,none⟩ (Qe Q Z Z)):=
 have s:∀ {X:World} {u v:Value} {k l:Nat},k≠l->((X.setCell ⟨l,0,none⟩ u).setCell ⟨l,1,none⟩ v).1[k]?=X.1[k]?:=(by grind[Below.heap_setCell]);have a:=(s (X:=W) (u:= .bool O) (v:= Qe G Z Z) e.symm).t m
 ⟨_,_,rfl,rfl,Oa,(by grind[bN8]),bN8 a,h.far _ _ _ _ _ _ (h.far _ _ _ _ _ _ p q n) r a,(f.set2 n _ _).set2 a _ _,(j.set2 n _ _).set2 a _ _⟩
def Twq(Z:Nat)(E:World->Prop)(O:Bool)(G:Nat)(P:Bool)(Q b c:Nat)(W:World):Prop:=In E W/\W.1[b]?=some (stO O G Z)/\W.1[c]?=some (stO P Q Z)/\StW Z O G W/\StW Z P Q W
theorem Ck.tw(h:Ck H U L A F ns Y D M B V N E)(l:N<=b)(m:N<=c):Ck H U L A F ns Y D M B V (max b c+1) (Twq Z E O G P Q b c) where
 fd W hW:=h.fd W hW.1
 nx W W2 hW hp:=⟨h.nx _ _ hW.1 hp,h.box hp l hW.2.1,h.box hp m hW.2.2.1,hW.2.2.2.1.fd (h.fd _ hW.1) hp.2,hW.2.2.2.2.fd (h.fd _ hW.1) hp.2⟩
 far W a x y u v hW ha q:=by
  have f:∀ k,k≠a->((W.setCell ⟨a,0,none⟩ u).setCell ⟨a,1,none⟩ v).1[k]?=W.1[k]?:=(by grind[Below.heap_setCell]);exact⟨h.far _ _ _ _ _ _ hW.1 Oa q,(f _ Oa).t hW.2.1,(f _ Oa).t hW.2.2.1,hW.2.2.2.1.set2 q _ _,hW.2.2.2.2.set2 q _ _⟩
 far2 W C a j u hW hX ha:=by
  have f:∀ k,k < C.1.size->(W.setCell ⟨a,j,none⟩ u).1[k]?=W.1[k]?:=(by grind[Below.heap_setCell]);have lt:∀ {k:Nat} {o:Obj},C.1[k]?=some o->k < C.1.size:=Qg;exact⟨h.far2 _ _ _ _ _ hW.1 hX.1 ha,(f _ (lt hX.2.1)).t hW.2.1,(f _ (lt hX.2.2.1)).t hW.2.2.1,hW.2.2.2.1.move (f _ hX.2.2.2.1.lt),hW.2.2.2.2.move (f _ hX.2.2.2.2.lt)⟩
 sz W hW:=by have p:=(Oo hW.2.1);have r:=(Oo hW.2.2.1);omega
 vs k e:=by have:=h.vs k e;omega
def Ow(E:World->Prop)(a:Nat):Prop:=∀ W,In E W->(∃ x y,W.1[a]?=some (Qf #[x,y] 230))/\∀ u v,In E ((W.setCell ⟨a,0,none⟩ u).setCell ⟨a,1,none⟩ v)
theorem Ow.tw{a:Nat}(h:Ow E a)(l:b≠a)(m:c≠a):Ow (Twq Z E O G P Q b c) a:=fun W e=>by
 obtain⟨⟨x,y,q⟩,j⟩:=h W e.1;have f:∀ {u v:Value} {k:Nat},k≠a->((W.setCell ⟨a,0,none⟩ u).setCell ⟨a,1,none⟩ v).1[k]?=W.1[k]?:=(by grind[Below.heap_setCell]);exact⟨Qh,fun u v=>⟨j u v,(f l).t e.2.1,(f m).t e.2.2.1,e.2.2.2.1.set2 q _ _,e.2.2.2.2.set2 q _ _⟩⟩
theorem Ow.cells{a:Nat}(h:Ow E a)(e:In E W):∃ x y,W.cell? ⟨a,0,none⟩=some x/\W.cell? ⟨a,1,none⟩=some y/\∀ o,W.frozen? ⟨a,o,none⟩=false:=by
 obtain⟨⟨x,y,q⟩,_⟩:=h W e;exact⟨x,y,Og q rfl,Og q rfl,(by grind[World.frozen?])⟩
theorem Ow.st{a:Nat}(h:Ow E a)(e:In E W)(f:StW Z O G W)(u v:Value):StW Z O G ((W.setCell ⟨a,0,none⟩ u).setCell ⟨a,1,none⟩ v):=by
 obtain⟨⟨x,y,q⟩,_⟩:=h W e;exact f.set2 q _ _
def Kl(H U:Nat)(L:List NQ)(A F:List Int)(ns:Nat)(Y D M B:Value)(V:List V3)(w:World)(own:List Nat)(R:List (Nat × Obj))(W:World):Prop:=Bw H U L A F ns Y D M B V w W/\(∀ a∈own,∃ x y,W.1[a]?=some (Qf #[x,y] 230))/\∀ p∈R,W.1[p.1]?=some p.2
variable {w:World} {own:List Nat} {R:List (Nat × Obj)}
theorem Kl.ck(z:FdW H U L A F ns Y D M B V w)(J:∀ a∈own,w.1.size<=a/\a < N)(I:∀ p∈R,w.1.size<=p.1/\p.1 < N)(r:(∃ a∈own,N<=a+1)\/∃ p∈R,N<=p.1+1)(T:w.1.size<=N):Ck H U L A F ns Y D M B V N (Kl H U L A F ns Y D M B V w own R) where
 fd W h:=h.1.fd
 nx W W2 h m:=⟨h.1.b m,fun a f=>by obtain⟨x,y,q⟩:=h.2.1 a f;exact⟨x,y,h.1.box m.2 Qh q⟩,fun p l=>h.1.box m.2 Qh (h.2.2 p l)⟩
 far W b x y u v h hb q:=by
  have s:∀ k,k≠b->((W.setCell ⟨b,0,none⟩ u).setCell ⟨b,1,none⟩ v).1[k]?=W.1[k]?:=(by grind[Below.heap_setCell]);exact⟨(h.1.set Oa _ _).set Oa _ _,fun a f=>by obtain⟨x,y,q⟩:=h.2.1 a f;grind,fun p l=>(s _ (Oi ((I p l).2))).t (h.2.2 p l)⟩
 far2 W C b j u h hX hb:=by
  have s:∀ k,k < C.1.size->(W.setCell ⟨b,j,none⟩ u).1[k]?=W.1[k]?:=(by grind[Below.heap_setCell]);have lt:∀ {k:Nat} {o:Obj},C.1[k]?=some o->k < C.1.size:=Qg;exact⟨h.1.set (Qm hX.1.fr.size hb) _ _,fun a f=>by obtain⟨x,y,q⟩:=h.2.1 a f;obtain⟨_,_,X⟩:=hX.2.1 a f;simp[*],fun p l=>(s _ (lt (hX.2.2 p l))).t (h.2.2 p l)⟩
 sz W h:=by
  rcases r with⟨a,f,r⟩|⟨p,m,r⟩
  ·obtain⟨x,y,q⟩:=h.2.1 a f
   grind
  ·have:=(Array.getElem?_eq_some_iff.1 (h.2.2 p m)).1;omega
 vs k e:=by have:=(Bw.start z).vs k e;omega
theorem Kl.ow{a:Nat}(m:a∈own)(j:w.1.size<=a)(l:∀ p∈R,p.1≠a):Ow (Kl H U L A F ns Y D M B V w own R) a:=fun W h=>by
 obtain⟨x,y,q⟩:=h.2.1 a m;have s:∀ {u v:Value} {k:Nat},k≠a->((W.setCell ⟨a,0,none⟩ u).setCell ⟨a,1,none⟩ v).1[k]?=W.1[k]?:=(by grind[Below.heap_setCell])
 exact⟨Qh,fun u v=>⟨(h.1.set j _ _).set j _ _,fun b r=>by
  by_cases e:b=a
  ·subst e;exact⟨_,_,bN8 q⟩
  ·obtain⟨x,y,q⟩:=h.2.1 b r;simp[*],fun p f=>(s (l p f)).t (h.2.2 p f)⟩⟩
def bV8(H U:Nat)(L:List NQ)(A F:List Int)(ns Z:Nat)(Y D M B:Value)(V:List V3)(w:World):Ending->World->Prop:=fun e w'=>∃ d g,e= .returned (stA d g Z)/\StW Z d g w'/\bM4 H U L A F ns Y D M B V w w'
def Ad(E:World->Prop)(b:Nat)(o:Obj)(W:World):Prop:=In E W/\W.1[b]?=some o
theorem Ck.ad(h:Ck H U L A F ns Y D M B V N E)(f:N<=b):Ck H U L A F ns Y D M B V (b+1) (Ad E b o) where
 fd W hW:=h.fd W hW.1
 nx W W2 hW hp:=⟨h.nx _ _ hW.1 hp,h.box hp f hW.2⟩
 far W a x y u v hW ha q:=⟨h.far _ _ _ _ _ _ hW.1 Oa q,((Om (by show b≠a;omega)).t (Om (by show b≠a;omega))).t hW.2⟩
 far2 W C a j u hW hX ha:=⟨h.far2 _ _ _ _ _ hW.1 hX.1 ha,(Om (by have:=(Oo hX.2);grind)).t hW.2⟩
 sz W hW:=(Oo hW.2)
 vs k e:=by have:=h.vs k e;omega
theorem Ow.ad{a:Nat}(h:Ow E a)(f:b≠a):Ow (Ad E b o) a:=fun W e=>by
 obtain⟨⟨x,y,q⟩,j⟩:=h W e.1;exact⟨Qh,fun u v=>⟨j u v,((Om f).t (Om f)).t e.2⟩⟩
def Ads(Z:Nat)(E:World->Prop)(d:Bool)(g:Nat)(W:World):Prop:=In E W/\StW Z d g W
theorem Ck.ads(h:Ck H U L A F ns Y D M B V N E):Ck H U L A F ns Y D M B V N (Ads Z E O G) where
 fd W hW:=h.fd W hW.1
 nx W W2 hW hp:=⟨h.nx _ _ hW.1 hp,hW.2.fd (h.fd _ hW.1) hp.2⟩
 far W a x y u v hW ha q:=⟨h.far _ _ _ _ _ _ hW.1 ha q,hW.2.set2 q _ _⟩
 far2 W C a j u hW hX ha:=⟨h.far2 _ _ _ _ _ hW.1 hX.1 ha,hW.2.move (Om (by have:=hX.2.lt;grind))⟩
 sz W hW:=h.sz W hW.1
 vs:=h.vs
theorem Ow.ads{a:Nat}(h:Ow E a):Ow (Ads Z E O G) a:=fun W e=>by
 obtain⟨⟨x,y,q⟩,f⟩:=h W e.1;exact⟨Qh,fun u v=>⟨f u v,e.2.set2 q _ _⟩⟩
def One(N:Nat)(E:World->Prop)(o:Obj)(v:Value)(W:World):Prop:=∃ b,v= Qd b/\N<=b/\W.1[b]?=some o/\In E W
theorem Ck.wayA(h:Ck H U L A F ns Y D M B V N E)(a:In E W):One N E o (Qd W.1.size) (W.alloc o):=⟨_,rfl,h.sz _ a,Qk W o,h.al a _⟩
theorem Ck.wayB(h:Ck H U L A F ns Y D M B V N E)(a:In E C)(e:In E W){x y u v:Value}{t:TypeId}(n:W.1[C.1.size]?=some (Qf #[x,y] t)):One N E (Qf #[u,v] t) (Qd C.1.size) ((W.setCell ⟨C.1.size,0,none⟩ u).setCell ⟨C.1.size,1,none⟩ v):=
 ⟨_,rfl,h.sz _ a,bN8 n,h.far2 _ _ _ _ _ (h.far2 _ _ _ _ _ e a Oa) a Oa⟩
def Ao(E:World->Prop)(b:Nat)(W:World):Prop:=In E W/\∃ x y,W.1[b]?=some (Qf #[x,y] 230)
theorem Ck.ao(h:Ck H U L A F ns Y D M B V N E)(f:N<=b):Ck H U L A F ns Y D M B V (b+1) (Ao E b) where
 fd W hW:=h.fd W hW.1
 nx W W2 hW hp:=by obtain⟨x,y,q⟩:=hW.2;exact⟨h.nx _ _ hW.1 hp,x,y,h.box hp f q⟩
 far W a x y u v hW ha q:=by obtain⟨x,y,m⟩:=hW.2;exact⟨h.far _ _ _ _ _ _ hW.1 Oa q,x,y,(by grind[Below.heap_setCell])⟩
 far2 W C a j u hW hX ha:=by obtain⟨x,y,q⟩:=hW.2;obtain⟨_,_,l⟩:=hX.2;exact⟨h.far2 _ _ _ _ _ hW.1 hX.1 ha,x,y,(by grind[Below.heap_setCell,Array.getElem?_eq_some_iff])⟩
 sz W hW:=by obtain⟨x,y,q⟩:=hW.2;grind
 vs k e:=by have:=h.vs k e;omega
theorem Ow.ao{a:Nat}(h:Ow E a)(f:b≠a):Ow (Ao E b) a:=fun W e=>by
 obtain⟨⟨x,y,q⟩,j⟩:=h W e.1;obtain⟨l,m,k⟩:=e.2;exact⟨Qh,fun u v=>⟨j u v,l,m,((Om f).t (Om f)).t k⟩⟩
theorem Ck.mine(h:Ck H U L A F ns Y D M B V N E)(e:N<=b):Ow (Ao E b) b:=fun W a=>by
 obtain⟨x,y,q⟩:=a.2;exact⟨Qh,fun u v=>⟨h.far _ _ _ _ _ _ a.1 e q,_,_,bN8 q⟩⟩
end
end
section
def cA0(L0 L:List NQ)(A F:List Int)(ns:Nat)(x:Int):Prop:=∃ (f:NQ) (Z:Nat) (b:Int) (K Kw:Int->Prop),Ndq L x f/\f.b=(Z:Int)/\Z<=100000/\f.g.length<=Z/\f.e.length<=100000/\f.c=[b]/\Nok L0 L A F Z ns K/\KdK L K 3 b/\Nok L0 L A F Z ns Kw/\∀ c∈f.e,∃ (n:NQ) (y z:Int),Ndq L c n/\n.c=[y,z]/\ExK L Kw y/\ExK L Kw z
section
variable {P:Program} {G:Array Oper} {Q:Exit->Act->World->Prop} {B:Region.Mode} {S:World->Prop} {c:Nat}
def bO8(P:Program)(B:Region.Mode)(G:Array Oper)(Q:Exit->Act->World->Prop)(S:World->Prop)(c:Nat):Nat->Array Bool->Act->World->Prop
 |0,l,a,w=>Region.ready B G l=[]/\Q .normal a w
 |n+1,l,a,w=>(Region.ready B G l=[]->Q .normal a w)/\∀ i∈Region.ready B G l,wpOp P G Q i (fun a' w'=>((l.setIfInBounds i true).getD c true=false->S w')/\bO8 P B G Q S c n (l.setIfInBounds i true) a' w') a w
theorem bTE:∀ (n:Nat) (l:Array Bool) (a:Act) (w:World),bO8 P B G Q S c n l a w->wpAny P B G Q n l a w
 |0,_,_,_,h=>h
 |n+1,_,_,_,h=>⟨h.1,fun i hi=>wpOp_mono (fun e j f=>bTE n _ e j f.2) (h.2 i hi)⟩
def bZK(B:Region.Mode)(G:Array Oper)(i:Nat)(D:List Nat):Prop:=∀ d∈D,∃ o,G[d]?=some o/\∃ e∈o.after,Region.binds B e=true/\(e.on=i\/e.on∈D)
theorem bZK.not{i j:Nat}{D:List Nat}{l:Array Bool}(h:bZK B G i D)(hi:l.getD i true=false)(r:∀ d∈D,l.getD d true=false)(x:j∈Region.ready B G l):j ∉ D:=fun u=>by
 obtain⟨o,y,e,v,s,q⟩:=h j u;obtain⟨_,I,m,p⟩:=mem_ready.1 x;rw[y]at m;cases m;have a:=p e v s;have f:l.getD e.on true=false:=q.elim (fun z=>by rw[z];exact hi) (r _);rcases Qt e.on l.size with k|k
 ·simp[k]at a f;rw[a]at f;cases f
 ·simp[Array.getElem?_eq_none k]at a
theorem bUB{i:Nat}{m:Oper}{v:Value}{D:List Nat}(hi:G[i]?=some m)(hs:Region.noSelect G=true)(hQ:∀ x a w,Q (.panic x) (a.put m.dst v) w->Q (.panic x) a w)(hW:bZK B G i D)(X:c∈D)(k2:i ∉ D):
 ∀ (r:Nat) (l:Array Bool) (a:Act) (w:World),(∀ d∈D,l.getD d true=false)->
  (∀ j k,G[j]?=some k->j≠i->l.getD j true=false->(∀ e∈k.after,Region.binds B e=true->e.on≠i)->m.apart G k=true)->
  i∈Region.ready B G l->YieldsIf P G S m v a->S w->bO8 P B G Q S c r (l.setIfInBounds i true) (a.put m.dst v) w->bO8 P B G Q S c (r+1) l a w:=by
 intro r
 induction r with
 |zero=>
  intro l a w u _ f y p H;refine⟨fun h=>(by rw[h]at f;cases f),fun j q=>?_⟩
  by_cases e:j=i
  ·subst e;exact y.wpOp hi p ⟨fun _=>p,H⟩
  ·have:=ready_mono q e;rw[H.1]at this;cases this
 |succ r ih=>
  intro l a w u hf f y p H;refine⟨fun h=>(by rw[h]at f;cases f),fun j q=>?_⟩
  by_cases e:j=i
  ·subst e;exact y.wpOp hi p ⟨fun _=>p,H⟩
  have T:=(mem_ready.1 f).1;have h9:=hW.not T u q;obtain⟨h8,k,J,h6⟩:=mem_ready.1 q
  have h4:∀ x∈k.after,Region.binds B x=true->x.on≠i:=fun x hx hb hq=>by
   have n:=h6 x hx hb;rw[hq]at n;rcases Qt i l.size with hl|hl
   ·simp[hl]at T n;rw[T]at n;cases n
   ·simp[Array.getElem?_eq_none hl]at n
  have h2:=wpOp_putIf J (hf j k J e h8 h4) (fun I b=>Region.noSelect_spec hs i m I b hi) (fun I b=>Region.noSelect_spec hs j k I b J) hQ y (H.2 j (ready_mono q e))
  have k4:∀ d∈D,(l.setIfInBounds j true).getD d true=false:=fun d hd=>by
   have z:j≠d:=by rintro rfl;exact h9 hd
   rw[getD_set_ne true z];exact u d hd
  have k0:((l.setIfInBounds i true).setIfInBounds j true).getD c true=false:=by
   have q1:j≠c:=by rintro rfl;exact h9 X
   have q2:i≠c:=by rintro rfl;exact k2 X
   rw[getD_set_ne true q1,getD_set_ne true q2];exact u c X
  refine wpOp_mono (fun a' w' s=>⟨fun _=>s.2.1 k0,ih (l.setIfInBounds j true) a' w' k4 (fun a1 ok hk k3 h7 k1=>hf a1 ok hk k3 ?_ k1) (ready_mono f (Ne.symm e)) s.1 (s.2.1 k0) ?_⟩) h2
  ·by_cases z:j=a1
   ·subst z;exact h8
   ·rw[getD_set_ne true z]at h7;exact h7
  ·rw[Array.setIfInBounds_comm _ _ e];exact s.2.2
def bZO(B:Region.Mode)(G:Array Oper)(i:Nat)(D:List Nat):Bool:=D.all fun d=>match G[d]? with
 |some o=>o.after.any fun e=>Region.binds B e&&(e.on==i||D.contains e.on)
 |none=>false
theorem bYQ{i:Nat}{D:List Nat}(h:bZO B G i D=true):bZK B G i D:=fun d j=>by
 have a:=List.all_eq_true.1 h d j;cases ho:G[d]? with
 |none=>simp[ho]at a
 |some o=>
  simp only[ho]at a;obtain⟨e,k,f⟩:=Array.any_eq_true'.1 a;simp only[Bool.and_eq_true,Bool.or_eq_true,beq_iff_eq,List.contains_iff_mem]at f;exact⟨o,rfl,e,k,f.1,f.2⟩
theorem bM9{i:Nat}{f:Oper}{v:Value}(D:List Nat){n:Nat}{l:Array Bool}{a:Act}{w:World}(hi:G[i]?=some f)(q:Region.noSelect G=true)(m:Region.free B G l i=true)(p:(Region.ready B G l).contains i=true)(e:(bZO B G i D&&D.contains c&&!D.contains i&&D.all fun d=>l.getD d true==false)=true)(j:∀ x a w,Q (.panic x) (a.put f.dst v) w->Q (.panic x) a w)(r:YieldsIf P G S f v a)(k:S w)(h:bO8 P B G Q S c n (l.setIfInBounds i true) (a.put f.dst v) w):bO8 P B G Q S c (n+1) l a w:=by
 simp only[Bool.and_eq_true,List.contains_iff_mem,Bool.not_eq_true',List.all_eq_true,beq_iff_eq]at e;exact bUB hi q j (bYQ e.1.1.1) e.1.1.2 (by simpa using e.1.2) n l a w e.2 (Region.free_spec hi m) (by simpa using p) r k h
theorem bUA{id:Nat}{a:Act}{w:World}(e:P.follows .mixedOrders=true)(h:bO8 P .any G Q S c G.size (Array.replicate G.size false) a w.drew):(Code.region id G true).wp P Q a w:=wp_region_any e (bTE _ _ _ _ h)
theorem bTD{i n:Nat}{f:Oper}{l:Array Bool}{a:Act}{w:World}(hi:G[i]?=some f)(j:Region.ready B G l=[i])(r:(l.setIfInBounds i true).getD c true=true)(h:∀ K:Act->World->Prop,Hid (∀ a w,bO8 P B G Q S c n (l.setIfInBounds i true) a w->K a w)->if Region.wanted f (yielded G a.tmps)=true then Oper.wp P f a w K Q else K (a.put f.dst undef) w):bO8 P B G Q S c (n+1) l a w:=
 ⟨fun m=>(by rw[m]at j;cases j),fun s k=>by
   rw[j,List.mem_singleton]at k;subst k;exact wpOp_step hi (fun K p=>h K (fun a w q=>p a w ⟨fun e=>(by rw[r]at e;cases e),q⟩))⟩
theorem bW6{n:Nat}{l:Array Bool}{a:Act}{w:World}(f:Region.ready B G l=[])(h:Q .normal a w):bO8 P B G Q S c n l a w:=by
 cases n with
 |zero=>exact⟨f,h⟩
 |succ n=>exact⟨fun _=>h,fun j e=>by rw[f]at e;cases e⟩
end
end
end Go.Proofs.YtikffmloeifkpaaGreatDoor
