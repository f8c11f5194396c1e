/- Contracts. -/
import Derived.Test.YtikffmloeifkpaaGreatDoorR24
set_option maxHeartbeats 16000000
set_option maxRecDepth 100000
namespace Go.Proofs.YtikffmloeifkpaaGreatDoor
open Go.RowKit Go.Lib Go.Deep Go.ChangeMaps Go.MapKept Tryz
section
variable {H U:Nat} {L S:List NQ} {A F:List Int} {ns Z g:Nat} {Y D M B O:Value} {V:List V3} {K:Int->Prop}
def aHC(H U:Nat)(L:List NQ)(A F:List Int)(ns:Nat)(Y D M B:Value)(V:List V3)(w:World):Ending->World->Prop:=fun e w'=>∃ r,e= .returned (vN r)/\Rk r/\gY H U L A F ns Y D M B V w w'
structure Cls(E:World->Prop) where
 w:World
 h:E w
theorem rQ{P:Program}{E:World->Prop}{id:Nat}{Q:Exit->Act->World->Prop}{a:Act}{w:World}{l:List Oper}(d:P.follows .mixedOrders=true)(c:Region.lexB .any l.toArray=true)(h0:E w.drew)(h:Nonempty (Cls E)->wpQuiet P l.toArray (fun w'=>∃ x:Cls E,w'=x.w) (fun b=>∀ w',(∃ x:Cls E,w'=x.w)->Q .normal b w') l a):(Code.region id l.toArray true).wp P Q a w:=
 wp_region_quiet (C:=fun w'=>∃ x:Cls E,w'=x.w) d c ⟨⟨_,h0⟩,rfl⟩ (h ⟨⟨_,h0⟩⟩)
structure aM8(S L:List NQ)(A F:List Int):Prop where
 arr:∀ (i:Nat) x,A[i]?=some x->∃ n,jM L x n
 fn:∀ (i:Nat) x n0,F[i]?=some x->jM S x n0->n0.g.length<=100000/\∃ n,jM L x n/\∀ c∈n.e,aUD L n0.g.length c
structure zS(H U:Nat)(L:List NQ)(A F:List Int)(ns:Nat)(Y D M B:Value)(V:List V3)(d:Bool)(g Z:Nat)(o:Obj)(w:World)(R:List (Int × Int))(O:Value)(w':World):Prop where
 q0:w'.1[w.1.size]?=some (kE d g Z)
 q1:w'.1[w.1.size+1]?=some (vM (0,0))
 q2:w'.1[w.1.size+1+1]?=some o
 row:w'.ownsRow (w.1.size+3) 232 2 O R.length (qZ R)
 rk:∀ r∈R,Rk r
 fd:qQ H U L A F ns Y D M B V w'
 fr:Fd B w w'
 sz:w.1.size+3<=w'.1.size
 vs:∀ k,B.ownBlock=some k->k < w.1.size
section
variable {d:Bool} {o:Obj} {w w' w2:World} {R:List (Int × Int)}
theorem zS.b(h:zS H U L A F ns Y D M B V d g Z o w R O w')(b:Fd B w' w2)(j:qQ H U L A F ns Y D M B V w2):zS H U L A F ns Y D M B V d g Z o w R O w2:=by
 have i:=h.sz;have a:∀ k,w.1.size<=k->k < w'.1.size->w2.1[k]?=w'.1[k]?:=fun k l f=>b.keep k f (fun e=>by have:=h.vs k e;omega);exact⟨(a _ Oa Oa).t h.q0,(a _ Oa Oa).t h.q1,(a _ Oa Oa).t h.q2,aR h.row (fun k c=>a k (Oi ((aW h.row c).2)) (fC h.row c)),h.rk,j,h.fr.t b,Qm i b.size,h.vs⟩
theorem qQ.off(h:qQ H U L A F ns Y D M B V w)(p:∀ (k:Nat) (cs:Array Value) (t:TypeId),w.1[k]?=some (.cells cs t (0,0))->t≠232->w2.1[k]?=w.1[k]?):qQ H U L A F ns Y D M B V w2:=by
 obtain⟨x,u,r⟩:=h.prog;obtain⟨b,s⟩:=h.d
 have a:∀ {n i:Nat} {e:TypeId} {v:Value} {b:List Value},w.ownsRow H e i v n b->e≠232->w2.ownsRow H e i v n b:=fun f q=>aR f (fun k j=>by
  obtain⟨⟨c,l⟩,_⟩:=aW f j
  grind)
 exact⟨Qg,a h.nodes Ob,a h.arrs Ob,a h.fns Ob,Qg,h.c.move (fun k m=>by
  obtain⟨⟨c,l⟩,_⟩:=h.c.typ m
  grind)⟩
theorem aMW(r:Int × Int):∀ R:List (Int × Int),qZ (R++[r])=qZ R++[Qc r.1,Qc r.2]
 |[]=>rfl
 |x::R=>by rw[List.cons_append,qZ,qZ,aMW r R];rfl
theorem zS.push(h:zS H U L A F ns Y D M B V d g Z o w R O w'){r:Int × Int}(s:Rk r){x:Obj}{i J:Nat}(p:w2.ownsRow (w.1.size+3) 232 2 (Qe i (R.length+1) J) (R.length+1) (qZ R++[Qc r.1,Qc r.2]))(a:(w'.alloc x).grownBy w2 O.ownBlock):
 zS H U L A F ns Y D M B V d g Z o w (R++[r]) (Qe i (R.length+1) J) w2:=by
 have u:=h.sz;have v:(w'.alloc x).1.size=w'.1.size+1:=cP _ _;have y:=a.size;have b:∀ k,k < w'.1.size->O.ownBlock≠some k->w2.1[k]?=w'.1[k]?:=fun k l j=>(a.block k Oa Qg).t (On l);have lo:∀ k,k < w.1.size+3->O.ownBlock≠some k:=fun k c e=>by have:=(aW h.row e).2;omega
 exact⟨(b _ Oa (lo _ Oa)).t h.q0,(b _ Oa (lo _ Oa)).t h.q1,(b _ Oa (lo _ Oa)).t h.q2,by grind[List.length_append,aMW],fun q f=>by
  rcases List.mem_append.1 f with f|f
  ·exact h.rk q f
  grind,h.fd.off (fun k m t c n=>b k Qg (cV h.row c Qg)),⟨a.os.t h.fr.os,a.tape.t h.fr.tape,a.output.t h.fr.output,Oa,fun k c j=>(b k Oa (lo _ Oa)).t (h.fr.keep k c j)⟩,Oa,h.vs⟩
end
section
variable {d:Bool} {o:Obj} {w w' w2:World} {R:List (Int × Int)} {i:Int} {n:NQ}
theorem zS.setB(h:zS H U L A F ns Y D M B V d g Z o w R O w'){b:Nat}{cs:Array Value}(m:w'.1[b]?=some (.cells cs 232 (0,0)))(f:w.1.size+3<=b)(l:O.ownBlock≠some b)(j:Nat)(u:Value):zS H U L A F ns Y D M B V d g Z o w R O (w'.setCell ⟨b,j,none⟩ u):=by
 have a:∀ k,k≠b->(w'.setCell ⟨b,j,none⟩ u).1[k]?=w'.1[k]?:=(by grind[Below.heap_setCell]);exact⟨(a _ Oa).t h.q0,(a _ Oa).t h.q1,(a _ Oa).t h.q2,aR h.row Qg,h.rk,h.fd.off Qg,⟨h.fr.os,h.fr.tape,h.fr.output,by grind[World.setCell],fun k e c=>(a k Oa).t (h.fr.keep k e c)⟩,by grind[World.setCell],h.vs⟩
theorem zS.below(h:zS H U L A F ns Y D M B V d g Z o w R O w')(a:Below w'.1.size w' w2):zS H U L A F ns Y D M B V d g Z o w R O w2:=h.b (Fd.of a) (h.fd.below a)
theorem zS.four{a':NQ}{b1 a b:Option Addr}{c1 c2 c3:Nat}(h:zS H U L A F ns Y D M B V d g Z (jJ a' b1 c1 a c2 b c3) w R O w'):w'.cell? ⟨w.1.size,0,none⟩=some (.bool d)/\w'.cell? ⟨w.1.size,1,none⟩=some (Qe g Z Z)/\w'.cell? ⟨w.1.size+1+1,10,none⟩=some (Qc a'.f)/\w'.cell? ⟨w.1.size+1+1,9,none⟩=some (Qc a'.ref):=
 ⟨(aQ h.q0).1,(aQ h.q0).2.1,Og h.q2 rfl,Og h.q2 rfl⟩
theorem zS.fin(h:zS H U L A F ns Y D M B V d g Z o w R O w')(u v:Value):gY H U L A F ns Y D M B V w ((w'.setCell ⟨w.1.size+1,0,none⟩ u).setCell ⟨w.1.size+1,1,none⟩ v):=by
 have b:∀ k,k≠w.1.size+1->((w'.setCell ⟨w.1.size+1,0,none⟩ u).setCell ⟨w.1.size+1,1,none⟩ v).1[k]?=w'.1[k]?:=(by grind[Below.heap_setCell]);exact⟨h.fd.off (fun k e t a h0=>b k (bR a h.q1 h0)),⟨h.fr.os,h.fr.tape,h.fr.output,by simp[World.setCell];exact h.fr.size,fun k a c=>(b k Oa).t (h.fr.keep k a c)⟩⟩
theorem WfK.ex(h:WfK L K i n)(j:cK n.d=0):∀ y∈n.c,ExK L K y:=by
 have h0:=cK0 j;rcases h with⟨_,h⟩|⟨_,h⟩|⟨e,h⟩|⟨_,y,h,b⟩|⟨_,y,z,h,b,c⟩|⟨e,_⟩|⟨e,_⟩
 ·simp[*]
 ·exact fun y f=>⟨(h y f).1,(h y f).2.2⟩
 ·omega
 ·intro x a;rw[h]at a;rw[List.mem_singleton.1 a];exact⟨b.1,b.2.2⟩
 ·intro x a;rw[h]at a;rcases List.mem_cons.1 a with rfl|a
  ·exact⟨b.1,b.2.2⟩
  ·rw[List.mem_singleton.1 a];exact⟨c.1,c.2.2⟩
 ·omega
 ·omega
end
theorem uN(hN:Nok S L A F Z ns K)(hO:aM8 S L A F)(hZ:L.length<=100000)(_:A.length<=100000)(c6:F.length<=100000)(_:Z<=100000)(y6:ns<=1000000):∀ (n:Nat) (y:Int) (d:Bool) (w:World),y.toNat < n->ExK L K y->qQ H U L A F ns Y D M B V w->fG Z d g w->
 Calls prog 234 #[Qd U,oH d g Z,Qc y] w (aHC H U L A F ns Y D M B V w):=by
 intro n
 induction n with
 |zero=>intro y d w h;omega
 |succ n ih=>
  intro y d w hn hk hw hs;obtain⟨hk,a,c8,z4⟩:=hk;obtain⟨a',ha,k6,y4,k0⟩:=hN y hk;have e:a=a':=by have h1:=ha.2;have h2:=c8.2;rw[h1]at h2;exact(Oq h2).symm
  subst e
  have n5:a.c.length<=100000:=by
   have h0:=cK0 z4;rcases k6 with⟨_,h⟩|⟨h6,_⟩|⟨h9,_⟩|⟨_,y,h,_⟩|⟨_,y,o6,h,_⟩|⟨h9,_⟩|⟨h9,_⟩
   ·rw[h];exact Qn _
   ·obtain⟨x,n0,p0,p1,p2,p3⟩:=y4.2.2 h6;rw[<-p3];exact(hO.fn _ _ _ p1 p2).1
   ·omega
   ·rw[h];exact(by decide:1<=100000)
   ·rw[h];exact(by decide:2<=100000)
   ·omega
   ·omega
  obtain⟨o5,k9⟩:=hw.d;have d7:∀ k,B.ownBlock=some k->k < w.1.size:=fun k e=>fC k9 e;have j7:=k9;clear k9;obtain⟨k,gr,p,b1,c1,u,c2,z,c3,rfl,n6,rfl,m5,g0,e0,e1,e2,e3,e4,e5,e6,e7,e8,e9,b9⟩:=hw.p0 ha;have l2:0<=(k:Int)/\(k:Int) < (L.length:Int):=Oa
  have b6:=Qp w _ g0;have m9:=Qp w _ e0;dsimp only at b6 m9;obtain⟨W1,b4,kb,kz,q0,q1,q2⟩:=al3 w (kE d g Z) (vM (0,0)) (rJ a b1 c1 u c2 z c3);have HW:Hid (W1=_):=b4;go_enter func234,ntmps234
  go_upto_region 2 with fail
  rw[<-HW.o];clear HW b4 g0 e0 e1 e2 e3 e4 e5 e6 e7 e8 e9 b9 b6 m9;have j:zS H U L A F ns (Qe gr L.length p) D M B V d g Z (jJ a b1 c1 u c2 z c3) w [] (.slice none 0 0) W1:=⟨q0,q1,q2,⟨rfl,.l ⟨rfl,rfl⟩⟩,(fun r h=>by cases h),hw.below kb,Fd.of kb,Oa,d7⟩;clear q0 q1 q2 kb kz;obtain⟨i0,f5,i3,i4,i5⟩:=info_parts infoRg;go_wp2;go_loopg [8,9] (a.c.length+1) (fun n v8 v9 wr=>∃ R:List (Int × Int),v9= Qc (R.length:Nat)/\R.length+n=a.c.length+1/\R.length<=a.c.length/\zS H U L A F ns (Qe gr L.length p) D M B V d g Z (jJ a b1 c1 u c2 z c3) w R v8 wr)
  case atStart=>exact⟨[],rfl,Od,Od,j⟩
  case round=>
   clear j;obtain⟨R,rfl,m8,z7,j⟩:=hrel;obtain⟨ao,G,rfl,_⟩:=bP j.row;have l5:wr.cell? ⟨w.1.size+1+1,5,none⟩=some (.slice b1 a.c.length c1):=Og j.q2 rfl
   by_cases hi:R.length < a.c.length
   ·have t0:decide ((R.length:Int) < (a.c.length:Int))=true:=by simp;omega
    obtain⟨b7,rfl⟩:=Oj gk;have c9:0<=(R.length:Int)/\(R.length:Int) < (a.c.length:Int):=Oa
    have n9:IntKind.i64.wrap ((R.length:Int)+1)=(R.length:Int)+1:=IntWalk.i64_in _ Oa;obtain⟨y,hy⟩:∃ y,a.c[R.length]?=some y:=⟨a.c[R.length],List.getElem?_eq_getElem _⟩;obtain⟨g6,k5,d8,j4,f7⟩:=pZ m5 hy;simp only[Value.slice.injEq]at d8;obtain⟨rfl,-,rfl⟩:=d8
    have g3:B.ownBlock≠some g6:=fun e=>by
     obtain⟨⟨c,hc⟩,_⟩:=aW m5.k (k:=g6) rfl;exact cV j7 hc Ob e
    have j4:=(Qo (j.fr.keep g6 f7 g3)).t j4;have g9:=k6.ex z4 y (Qr hy);obtain⟨_,n7⟩:=k6.kid y (Qr hy);obtain⟨_,d4,_⟩:=hN y g9.1;have d4:=d4.1;obtain⟨s0,s1,_⟩:=aQ j.q0;have k8:∀ W:World,Below wr.1.size wr W->Calls prog 234 #[Qd U,oH d g Z,Qc y] W (aHC H U L A F ns (Qe gr L.length p) D M B V W):=fun W q=>ih y d W Oa g9 (j.fd.below q) (hs.fd hw (j.fr.t (Fd.of q)));have d6:∀ k,B.ownBlock=some k->k < wr.1.size:=fun k e=>Nat.lt_of_lt_of_le (d7 k e) j.fr.size
    have a9:∀ W:World,Fd B (wr.alloc (vM (0,0))).drew W->W.cell? ⟨wr.1.size,0,none⟩=some (Qc 0)/\W.cell? ⟨wr.1.size,1,none⟩=some (Qc 0)/\(∀ o,W.frozen? ⟨wr.1.size,o,none⟩=false)/\W.1[wr.1.size]?=some (vM (0,0)):=fun W hF=>by
     have h:W.1[wr.1.size]?=some (vM (0,0)):=(hF.keep _ (by show wr.1.size < (wr.alloc _).1.size;rw[cP];omega) (fun e=>by have:=d6 _ e;omega)).t (Qk wr _);exact⟨(cU h).1,(cU h).2.1,(cU h).2.2,h⟩
    have o4:=j.sz;have z0:w.1.size < wr.1.size:=Oa
    have z2:w.1.size+1+1 < wr.1.size:=Oa
    have z6:g6 < wr.1.size:=Qp _ _ j4;have d9:(Value.slice ao R.length G).ownBlock≠some wr.1.size:=fun e=>by have:=fC j.row e;omega
    have m:Hid (zS H U L A F ns (Qe gr L.length p) D M B V d g Z (jJ a (some ⟨g6,0,none⟩) c1 u c2 z c3) w R (.slice ao R.length G) wr):=j;clear j ih;go_upto_region 6 with fail
    go_cut [10]from 25 to 36 (fun i6 w'=>∃ (b:Nat) (r:Int × Int),i6= Qd b/\Rk r/\w'.1[b]?=some (vM r)/\zS H U L A F ns (Qe gr L.length p) D M B V d g Z (jJ a (some ⟨g6,0,none⟩) c1 u c2 z c3) w R (.slice ao R.length G) w')
    case first=>
     go_region_with (go_at_call 234;refine(k8 _ (by repeat (first|exact Below.refl _ _|refine Below.drew ?_|refine Below.alloc ?_ Od _))).mono ?_;rintro e W ⟨⟨C,N⟩,rfl,J,j2,y8⟩;try (have nn:=a9 W y8;obtain⟨n0,n1,nf,nr⟩:=nn))
     all_goals go_wp2
     all_goals go_meet
     all_goals first
      |exact⟨_,(C,N),rfl,J,aI (o:=1) (Qc N) (aI (o:=0) (Qc C) nr),(((m.o.below (by repeat (first|exact Below.refl _ _|refine Below.drew ?_|refine Below.alloc ?_ Od _))).b y8 j2).setB nr Oa d9 0 _).setB (aI (o:=0) (Qc C) nr) Oa d9 1 _⟩
      |exact⟨_,(C,N),rfl,J,Qk W _,((m.o.below (by repeat (first|exact Below.refl _ _|refine Below.drew ?_|refine Below.alloc ?_ Od _))).b y8 j2).below ((Below.refl _ _).alloc Ol _)⟩
    case rest=>
     obtain⟨b,⟨C,N⟩,rfl,J,hb,j⟩:=hcut;obtain⟨m0,m1,_⟩:=cU hb;have ho:=j.row;have o3:=j.sz;have b8:Hid (zS H U L A F ns (Qe gr L.length p) D M B V d g Z (jJ a (some ⟨g6,0,none⟩) c1 u c2 z c3) w R (.slice ao R.length G) wc):=j;clear j m k8 a9 s0 s1 l5 j4 d6;go_wp2_with (at_builtin;refine wpList_append_lies _ rfl _ _ 228 rfl (w.1.size+3) 232 i0 _ 2 16 underlying228 f5 i3 i4 i5 rfl Oa (.slice ao R.length G) R.length (qZ R) rfl (ho.alloc _) ⟨wc.1.size,0,none⟩ 1 1 [Qc C,Qc N] rfl rfl (World.news_of_block (cs:=#[Qc C,Qc N]) (t:=232) (fr:=(0,0)) (Qk wc _)) (by simp[Value.oneCell']) Oa (by unfold maxLen;omega) Oa (by simp;omega) (wc.1.size+1) Od ?_;intro gg i9 w9 y9 z3 l1 n8)
     go_roundg b7
     case rel=>exact⟨R++[(C,N)],Od,by simp;omega,by simp;omega,b8.o.push J y9 z3⟩
     case measure=>omega
   ·have t0:decide ((R.length:Int) < (a.c.length:Int))=false:=by simp;omega
    have c7:R.length=a.c.length:=Oa
    have j9:=hs.fd hw j.fr;obtain⟨s0,s1,_⟩:=aQ j.q0;obtain⟨x0,x1,xf⟩:=cU j.q1;have l0:wr.cell? ⟨w.1.size+1+1,0,none⟩=some (Qc a.d):=Og j.q2 rfl
    have l3:wr.cell? ⟨w.1.size+1+1,3,none⟩=some (Qc a.n):=Og j.q2 rfl
    have l9:wr.cell? ⟨w.1.size+1+1,9,none⟩=some (Qc a.ref):=Og j.q2 rfl
    have a7:wr.cell? ⟨w.1.size+1+1,10,none⟩=some (Qc a.f):=Og j.q2 rfl
    have m:Hid (zS H U L A F ns (Qe gr L.length p) D M B V d g Z (jJ a b1 c1 u c2 z c3) w R (.slice ao R.length G) wr):=j;have X:∀ (x y:Int),x≠y->(x==y)=false:=fun x y h=>by simp[h]
    have m7:=cK0 z4;have z1:w.1.size+1 < wr.1.size:=by have:=j.sz;omega
    clear j ih c7;cases d
    case true=>
     go_upto_region 10 with(go_at_call 235;refine(yW a.f k0 y6 true true m.o.fd).mono ?_;rintro e W ⟨rfl,j2,y8⟩)
     have j:=m.o.b y8 j2;clear m s0 s1 x0 x1 xf l0 l3 l9 a7;have z1:=Nat.lt_of_lt_of_le z1 y8.size;obtain⟨x0,x1,xf⟩:=cU j.q1;go_wp2_with (go_at_call 111;refine(tY _).mono ?_;rintro e W9 ⟨rfl,q⟩;obtain⟨hc,T⟩:=oO q)
     exact bodyPost_ret (v:=vN (-9223372036854775808,9223372036854775807)) (by simp[results,results234,go_sem, *]) rfl ⟨_,rfl,(by unfold Rk;omega),(j.below q).fin _ _⟩
    by_cases h3:a.d=3
    ·have t3:(a.d==3)=true:=by simp[h3]
     have n2:-999999999<=a.n/\a.n<=999999999:=by
      rcases k6 with⟨⟨_,h⟩|h,_⟩|⟨h,_⟩|⟨h,_⟩|⟨h,_⟩|⟨h,_⟩|⟨h,_⟩|⟨h,_⟩
      ·exact h
      all_goals omega
     go_wp2;exact bodyPost_ret (v:=vN (a.n,a.n)) (by simp[results,results234,go_sem, *]) rfl ⟨_,rfl,(by unfold Rk;dsimp only;omega),m.o.fin _ _⟩
    have t3:=X _ _ h3
    by_cases h4:a.d=4
    ·have t4:(a.d==4)=true:=by simp[h4]
     obtain⟨o1,o2⟩:=y4.1 (.l h4);obtain⟨i,hi⟩:=Int.eq_ofNat_of_zero_le o1;obtain⟨r,c0,b2,J⟩:=j9.get (i:=i) Oa;have c9:0<=(i:Int)/\(i:Int) < (Z:Int):=Oa
     rw[hi]at l9;have hR:=J rfl;clear J;go_wp2;exact bodyPost_ret (v:=vN r) (by simp[results,results234,go_sem, *]) rfl ⟨r,rfl,hR,m.o.fin _ _⟩
    have t4:=X _ _ h4
    by_cases h7:a.d=7
    ·have t7:(a.d==7)=true:=by simp[h7]
     obtain⟨y1,j6,_⟩:=k6.one (.r (.l h7));have m6:R.length=1:=by rw[show R.length=a.c.length by omega,j6];rfl
     obtain⟨l,cv,⟨C,N⟩,i1,hv,c0,b2,n3⟩:=wK m.o.row (i:=0) Oa;simp only[Value.slice.injEq]at hv;obtain⟨rfl,-,rfl⟩:=hv;have J:=m.o.rk _ (Qr i1);have b5:(0:Int) < (R.length:Int):=Oa
     unfold Rk at J;dsimp only at J c0 b2
     by_cases hm:C= -9223372036854775808
     ·have tm:(C==-9223372036854775808)=true:=by simp[hm]
      go_wp2_with (go_at_call 111;refine(tY _).mono ?_;rintro e W9 ⟨rfl,q⟩;obtain⟨hc,T⟩:=oO q)
      exact bodyPost_ret (v:=vN (-9223372036854775808,9223372036854775807)) (by simp[results,results234,go_sem, *]) rfl ⟨_,rfl,(by unfold Rk;omega),(m.o.below q).fin _ _⟩
     ·have tm:=X _ _ hm;have w1:IntKind.i64.wrap (-C)= -C:=IntWalk.i64_in _ Oa;have w2:IntKind.i64.wrap (-N)= -N:=IntWalk.i64_in _ Oa;go_upto_region 19 with fail
      go_region
      all_goals go_wp2
      all_goals exact bodyPost_ret (v:=vN (-N,-C)) (by simp[results,results234,go_sem, *]) rfl ⟨_,rfl,(by unfold Rk;dsimp only;omega),((m.o.below (Below.refl _ _).drew)).fin _ _⟩
    have t7:=X _ _ h7;have j0:R.length=a.c.length:=Oa
    have y3:Hid (zS H U L A F ns (Qe gr L.length p) D M B V false g Z (jJ a b1 c1 u c2 z c3) w R (.slice ao R.length G) wr.drew):=m.o.below (Below.refl _ _).drew
    by_cases h5:a.d=5
    ·have t5:(a.d==5)=true:=by simp[h5]
     obtain⟨y1,j6,_⟩:=k6.one (.l h5);have m6:R.length=1:=by rw[j0,j6];rfl
     obtain⟨l,cv,⟨P,a3⟩,j3,hv,_,_,_⟩:=wK m.o.row (i:=0) Oa;simp only[Value.slice.injEq]at hv;obtain⟨rfl,-,rfl⟩:=hv;obtain⟨o1,o2⟩:=y4.2.1 (.l h5);obtain⟨f,T⟩:=Int.eq_ofNat_of_zero_le o1;obtain⟨xa,j8⟩:∃ xa,A[f]?=some xa:=⟨A[f]'Oa,List.getElem?_eq_getElem _⟩;obtain⟨na,g4⟩:=hO.arr f xa j8;obtain⟨ga,ca,rfl,_⟩:=dQ m.o.fd.arrs j8;obtain⟨ka,rfl⟩:=Int.eq_ofNat_of_zero_le g4.1;have n4:ka < L.length:=by have:=(List.getElem?_eq_some_iff.1 g4.2).1;simpa using this
     obtain⟨E,j⟩:∃ E:World->Prop,E=zS H U L A F ns (Qe gr L.length p) (Qe ga A.length ca) M B V false g Z (jJ a b1 c1 u c2 z c3) w R (Qe l R.length G):=⟨_,rfl⟩;have E0:E wr.drew:=by rw[j];exact y3.o
     have s:∀ W,E W->zS H U L A F ns (Qe gr L.length p) (Qe ga A.length ca) M B V false g Z (jJ a b1 c1 u c2 z c3) w R (Qe l R.length G) W:=fun W h=>by rw[j]at h;exact h
     have y7:∀ x:Cls E,qQ H U L A F ns (Qe gr L.length p) (Qe ga A.length ca) M B V x.w:=fun x=>(s _ x.h).fd;have y5:∀ (x:Cls E) W,gY H U L A F ns (Qe gr L.length p) (Qe ga A.length ca) M B V x.w W->E W:=fun x W I=>by rw[j];exact(s _ x.h).b I.2 I.1
     have hx:∀ x:Cls E,(x.w.cell? ⟨w.1.size,0,none⟩=some (.bool false)/\x.w.cell? ⟨w.1.size,1,none⟩=some (Qe g Z Z)/\x.w.cell? ⟨w.1.size+1+1,10,none⟩=some (Qc a.f)/\x.w.cell? ⟨w.1.size+1+1,9,none⟩=some (Qc (f:Int)))/\x.w.cell? ⟨l,0,none⟩=some (Qc P)/\x.w.cell? ⟨l,1,none⟩=some (Qc a3)/\x.w.cell? ⟨U,0,none⟩=some (Qe gr L.length p)/\x.w.cell? ⟨U,2,none⟩=some (Qe ga A.length ca)/\x.w.cell? ⟨ga,f,none⟩=some (Qc (ka:Int))/\x.w.cell? ⟨gr,ka*11+3,none⟩=some (Qc na.n):=fun x=>by
      have h:=s _ x.h;obtain⟨g1,k1,z1,e1,v1,d0,d1,_⟩:=wK h.row (i:=0) Oa;rw[j3]at e1;obtain rfl:=Oq e1;simp only[Value.slice.injEq,Option.some.injEq,Addr.mk.injEq]at v1;obtain⟨⟨rfl,-⟩,-⟩:=v1;obtain⟨g2,k2,v2,d2⟩:=dQ h.fd.arrs j8;simp only[Value.slice.injEq,Option.some.injEq,Addr.mk.injEq]at v2;obtain⟨⟨rfl,-⟩,-⟩:=v2;obtain⟨k',g',k3,_,_,_,_,_,_,e3,_,e4,_,e5,⟨_,_,_,d3,_⟩⟩:=h.fd.p0 g4;obtain rfl:=Int.ofNat.inj e3;simp only[Value.slice.injEq,Option.some.injEq,Addr.mk.injEq]at e4;obtain⟨⟨rfl,-⟩,-,rfl⟩:=e4;obtain⟨vI,b7,I⟩:=h.fd.prog;have h4:=h.four;rw[T]at h4;exact⟨h4,d0,d1,e5,Og I rfl,d2,d3⟩
     have b5:(0:Int) < (R.length:Int):=Oa
     have l4:0<=(f:Int)/\(f:Int) < (A.length:Int):=Oa
     have l6:0<=(ka:Int)/\(ka:Int) < (L.length:Int):=Oa
     have a6:∀ W,E W->∀ a2 v,aHC H U L A F ns (Qe gr L.length p) (Qe ga A.length ca) M B V w (.returned (vN (-9223372036854775808,9223372036854775807))) ((W.setCell ⟨w.1.size+1,0,none⟩ a2).setCell ⟨w.1.size+1,1,none⟩ v):=fun W h a2 v=>⟨_,rfl,(by unfold Rk;omega),(s W h).fin _ _⟩;have z5:∀ W,E W->(W.cell? ⟨w.1.size+1,0,none⟩=some (Qc 0)/\W.cell? ⟨w.1.size+1,1,none⟩=some (Qc 0)/\∀ o,W.frozen? ⟨w.1.size+1,o,none⟩=false)/\w.1.size+1 < W.1.size/\∀ W2,Below W.1.size W W2->E W2:=fun W h=>⟨cU (s W h).q1,Oi ((s W h).sz),fun W2 q=>by rw[j];exact(s W h).below q⟩;clear m6 j0 m8 z7 k6 y4 x0 x1 xf j9 z4 m7 j m y3;go_upto_region 21 with fail
     clear s0 s1 l0 l3 l9 a7
     by_cases hq:0<=P
     ·have tq:decide (P≥0)=true:=by simp[hq]
      have a8:decide (0<=P)=true:=by simp[hq]
      refine rQ (E:=E) (by kernel_rfl) (by kernel_rfl) E0 (fun X=>?_)
      repeat (go_big_quiet_step ((go_at_call 235;refine(yW a.f k0 y6 false _ (y7 _)).mono ?_;rintro e W ⟨rfl,I⟩;exact⟨rfl,⟨W,y5 _ _ I⟩,rfl⟩)))
      refine wpQuiet_nil ?_;rintro W ⟨⟨_,Q⟩,rfl⟩;obtain⟨⟨x0,x1,xf⟩,z1,j1⟩:=z5 _ Q;go_wp2_with (go_at_call 111;refine(tY _).mono ?_;rintro e W9 ⟨rfl,q⟩;obtain⟨hc,T⟩:=oO q)
      exact bodyPost_ret (v:=vN (-9223372036854775808,9223372036854775807)) (by simp[results,results234,go_sem, *]) rfl (a6 _ (j1 _ q) _ _)
     ·have tq:decide (P≥0)=false:=by simp[hq]
      have a8:decide (0<=P)=false:=by simp[hq]
      refine rQ (E:=E) (by kernel_rfl) (by kernel_rfl) E0 (fun X=>?_)
      repeat (go_big_quiet_step ((go_at_call 235;refine(yW a.f k0 y6 false _ (y7 _)).mono ?_;rintro e W ⟨rfl,I⟩;exact⟨rfl,⟨W,y5 _ _ I⟩,rfl⟩)))
      refine wpQuiet_nil ?_;rintro W ⟨⟨_,Q⟩,rfl⟩;obtain⟨⟨x0,x1,xf⟩,z1,j1⟩:=z5 _ Q;go_wp2_with (go_at_call 111;refine(tY _).mono ?_;rintro e W9 ⟨rfl,q⟩;obtain⟨hc,T⟩:=oO q)
      exact bodyPost_ret (v:=vN (-9223372036854775808,9223372036854775807)) (by simp[results,results234,go_sem, *]) rfl (a6 _ (j1 _ q) _ _)
    have t5:=X _ _ h5
    by_cases h6:a.d=6
    ·have t6:(a.d==6)=true:=by simp[h6]
     obtain⟨i7,n0,o1,p1,p2,p3⟩:=y4.2.2 h6;obtain⟨_,b3,f4,k4⟩:=hO.fn _ _ _ p1 p2;obtain⟨f,T⟩:=Int.eq_ofNat_of_zero_le o1;rw[T]at l9 p1;simp only[Int.toNat_natCast]at p1
     have k4:∀ c∈b3.e,aUD L R.length c:=fun c hc=>by
      rw[j0,<-p3];exact k4 c hc
     have S0:Hid _:=m.o.four;rw[T]at S0
     have k7:∀ W,zS H U L A F ns (Qe gr L.length p) D M B V false g Z (jJ a b1 c1 u c2 z c3) w R (.slice ao R.length G) W->W.cell? ⟨w.1.size,0,none⟩=some (.bool false)/\W.cell? ⟨w.1.size,1,none⟩=some (Qe g Z Z)/\W.cell? ⟨w.1.size+1+1,10,none⟩=some (Qc a.f)/\W.cell? ⟨w.1.size+1+1,9,none⟩=some (Qc (f:Int)):=fun W h=>by
      have:=h.four;rw[T]at this;exact this
     clear S0 j0;go_upto_region 24 with fail
     clear x0 x1 xf l0 l3 l5
     go_region_held3 (fun w'=>w'.cell? ⟨w.1.size,0,none⟩=some (.bool false)/\w'.cell? ⟨w.1.size,1,none⟩=some (Qe g Z Z)/\w'.cell? ⟨w.1.size+1+1,10,none⟩=some (Qc a.f)/\w'.cell? ⟨w.1.size+1+1,9,none⟩=some (Qc (f:Int)))
      (first
        |exact a5.o
        |exact S2.o
        |(refine⟨?_,?_,?_,?_⟩<;>assumption)
        |go_keep)
      (first
        |(go_at_call 235;refine(yW a.f k0 y6 false ok g7.o.fd).mono ?_;rintro e Wb ⟨rfl,i2,f2⟩;have j5:Hid (zS H U L A F ns (Qe gr L.length p) D M B V false g Z (jJ a b1 c1 u c2 z c3) w R (.slice ao R.length G) Wb):=g7.o.b f2 i2;have S2:Hid _:=k7 Wb j5.o)
        |(go_at_call 294;refine(aUP hZ c6 f i7 b3 p1 f4 R k4 _ y3.o.fd y3.o.row).mono ?_;rintro e Wa ⟨ok,rfl,c5⟩;have g7:Hid (zS H U L A F ns (Qe gr L.length p) D M B V false g Z (jJ a b1 c1 u c2 z c3) w R (.slice ao R.length G) Wa):=y3.o.below c5;have a5:Hid _:=k7 Wa g7.o))
     obtain⟨x0,x1,xf⟩:=cU j5.o.q1;have z1:w.1.size+1 < Wb.1.size:=by have:=j5.o.sz;omega
     go_wp2_with (go_at_call 111;refine(tY _).mono ?_;rintro e W9 ⟨rfl,q⟩;obtain⟨hc,T⟩:=oO q)
     exact bodyPost_ret (v:=vN (-9223372036854775808,9223372036854775807)) (by simp[results,results234,go_sem, *]) rfl ⟨_,rfl,(by unfold Rk;omega),(j5.o.below q).fin _ _⟩
    have t6:=X _ _ h6;have h8:a.d=8:=Oa
    obtain⟨y1,y2,g8,_⟩:=k6.two (.l h8);have f6:R.length=2:=by rw[show R.length=a.c.length by omega,g8];rfl
    obtain⟨l,cv,⟨P,a3⟩,j3,hv,_,_,_⟩:=wK m.o.row (i:=0) Oa;obtain⟨_,_,⟨qa,qb⟩,m4,-,-,-,-⟩:=wK m.o.row (i:=1) Oa;simp only[Value.slice.injEq]at hv;obtain⟨rfl,-,rfl⟩:=hv
    have y0:∀ W,zS H U L A F ns (Qe gr L.length p) D M B V false g Z (jJ a b1 c1 u c2 z c3) w R (Qe l R.length G) W->W.cell? ⟨l,0,none⟩=some (Qc P)/\W.cell? ⟨l,1,none⟩=some (Qc a3)/\W.cell? ⟨l,2,none⟩=some (Qc qa)/\W.cell? ⟨l,3,none⟩=some (Qc qb):=fun W h=>by
     obtain⟨g1,k1,z1,e1,v1,d0,d1,_⟩:=wK h.row (i:=0) Oa;obtain⟨g2,k2,z2,e2,v2,d2,d3,_⟩:=wK h.row (i:=1) Oa;rw[j3]at e1;rw[m4]at e2;obtain rfl:=Oq e1;obtain rfl:=Oq e2;simp only[Value.slice.injEq,Option.some.injEq,Addr.mk.injEq]at v1 v2;obtain⟨⟨rfl,-⟩,-⟩:=v1;obtain⟨⟨rfl,-⟩,-⟩:=v2;exact⟨d0,d1,d2,d3⟩
    have f9:=m.o.rk _ (Qr j3);have f8:=m.o.rk _ (Qr m4);obtain⟨E,j⟩:∃ E:World->Prop,E=zS H U L A F ns (Qe gr L.length p) D M B V false g Z (jJ a b1 c1 u c2 z c3) w R (Qe l R.length G):=⟨_,rfl⟩;have E0:E wr.drew:=by rw[j];exact y3.o
    have s:∀ W,E W->zS H U L A F ns (Qe gr L.length p) D M B V false g Z (jJ a b1 c1 u c2 z c3) w R (Qe l R.length G) W:=fun W h=>by rw[j]at h;exact h
    have y7:∀ x:Cls E,qQ H U L A F ns (Qe gr L.length p) D M B V x.w:=fun x=>(s _ x.h).fd;have y5:∀ (x:Cls E) W,gY H U L A F ns (Qe gr L.length p) D M B V x.w W->E W:=fun x W I=>by rw[j];exact(s _ x.h).b I.2 I.1
    have d5:∀ W,E W->(W.cell? ⟨w.1.size+1+1,2,none⟩=some (.string a.s)/\W.cell? ⟨l,0,none⟩=some (Qc P)/\W.cell? ⟨l,1,none⟩=some (Qc a3)/\W.cell? ⟨l,2,none⟩=some (Qc qa)/\W.cell? ⟨l,3,none⟩=some (Qc qb)):=fun W h=>⟨Og (s W h).q2 rfl,y0 W (s W h)⟩;have hx:∀ x:Cls E,(x.w.cell? ⟨w.1.size,0,none⟩=some (.bool false)/\x.w.cell? ⟨w.1.size,1,none⟩=some (Qe g Z Z)/\x.w.cell? ⟨w.1.size+1+1,10,none⟩=some (Qc a.f)/\x.w.cell? ⟨w.1.size+1+1,9,none⟩=some (Qc a.ref))/\x.w.cell? ⟨l,0,none⟩=some (Qc P)/\x.w.cell? ⟨l,1,none⟩=some (Qc a3)/\x.w.cell? ⟨l,2,none⟩=some (Qc qa)/\x.w.cell? ⟨l,3,none⟩=some (Qc qb):=fun x=>⟨(s _ x.h).four,y0 _ (s _ x.h)⟩;have z5:∀ W,E W->(W.cell? ⟨w.1.size+1,0,none⟩=some (Qc 0)/\W.cell? ⟨w.1.size+1,1,none⟩=some (Qc 0)/\∀ o,W.frozen? ⟨w.1.size+1,o,none⟩=false)/\∀ W2,Below W.1.size W W2->E W2:=fun W h=>⟨cU (s W h).q1,fun W2 q=>by rw[j];exact(s W h).below q⟩;have a6:∀ W,E W->∀ r:Int × Int,Rk r->∀ a2 v,aHC H U L A F ns (Qe gr L.length p) D M B V w (.returned (vN r)) ((W.setCell ⟨w.1.size+1,0,none⟩ a2).setCell ⟨w.1.size+1,1,none⟩ v):=fun W h r J a2 v=>⟨r,rfl,J,(s W h).fin _ _⟩;have a4:∀ b,b≠w.1.size+1->∀ o a2 v (W:World),((W.setCell ⟨w.1.size+1,0,none⟩ a2).setCell ⟨w.1.size+1,1,none⟩ v).cell? ⟨b,o,none⟩=W.cell? ⟨b,o,none⟩:=fun b h o a2 v W=>(mR h).t (mR h);have z8:w.1.size+1+1≠w.1.size+1:=Oa
    have z9:l≠w.1.size+1:=by have:=(aW m.o.row (k:=l) rfl).2;omega
    have b5:(0:Int) < (R.length:Int):=Oa
    have l7:(1:Int) < (R.length:Int):=Oa
    clear j0 f6 m8 z7 k6 y4 x0 x1 xf j9 h8 g8 h3 h4 h5 h6 h7 z4 m7 j m y3 y0;go_upto_region 26 with fail
    clear s0 s1 l0 l3 l9 a7;have i8:Hid (∀ W,E W->True):=fun _ _=>trivial;go_cut []from 129 to 154 (fun w'=>E w')
    case first=>
     by_cases hq:0 < qa
     ·have tq:decide (qa > 0)=true:=by simp[hq]
      have a8:decide (0 < qa)=true:=by simp[hq]
      refine rQ (E:=E) (by kernel_rfl) (by kernel_rfl) E0 (fun X=>?_)
      repeat (go_big_quiet_step ((go_at_call 235;refine(yW a.f k0 y6 false _ (y7 _)).mono ?_;rintro e W ⟨rfl,I⟩;exact⟨rfl,⟨W,y5 _ _ I⟩,rfl⟩)))
      refine wpQuiet_nil ?_;rintro W ⟨⟨_,Q⟩,rfl⟩;go_wp2;go_meet;exact Q
     ·have tq:decide (qa > 0)=false:=by simp[hq]
      have a8:decide (0 < qa)=false:=by simp[hq]
      refine rQ (E:=E) (by kernel_rfl) (by kernel_rfl) E0 (fun X=>?_)
      repeat (go_big_quiet_step ((go_at_call 235;refine(yW a.f k0 y6 false _ (y7 _)).mono ?_;rintro e W ⟨rfl,I⟩;exact⟨rfl,⟨W,y5 _ _ I⟩,rfl⟩)))
      refine wpQuiet_nil ?_;rintro W ⟨⟨_,Q⟩,rfl⟩;go_wp2;go_meet;exact Q
    case rest=>
     have Q:Hid (E wc):=hcut;obtain⟨⟨x0,x1,xf⟩,j1⟩:=z5 _ Q.o;obtain⟨s2,m0,m1,m2,m3⟩:=d5 _ Q.o;clear hcut hx E0 s y7 y5;generalize R.length=rl at*;have l8:0 < rl/\1 < rl/\rl≠0:=Oa
     clear l5;go_upto_region 27 with fail
     go_region_held3 (fun w'=>w'.cell? ⟨w.1.size+1+1,2,none⟩=some (.string a.s)/\w'.cell? ⟨l,0,none⟩=some (Qc P)/\w'.cell? ⟨l,1,none⟩=some (Qc a3)/\w'.cell? ⟨l,2,none⟩=some (Qc qa)/\w'.cell? ⟨l,3,none⟩=some (Qc qb))
      (first
        |exact a5.o
        |(refine⟨?_,?_,?_,?_,?_⟩<;>assumption)
        |exact(let⟨p1,p2,p3,p4,p5⟩:=a5.o;⟨(a4 _ z8 _ _ _ _).t p1,(a4 _ z9 _ _ _ _).t p2,(a4 _ z9 _ _ _ _).t p3,(a4 _ z9 _ _ _ _).t p4,(a4 _ z9 _ _ _ _).t p5⟩))
      ((go_at_call 232;refine(aHI _ (P,a3) (qa,qb) _ f9 f8).mono ?_;rintro e Wd ⟨⟨C,N⟩,rfl,J,Bd⟩;have g5:Hid (E Wd):=j1 _ ((Below.refl _ _).drew.t Bd);have a5:Hid _:=d5 Wd g5.o;obtain⟨⟨x0,x1,xf⟩,-⟩:=z5 _ g5.o))
     go_wp2;exact bodyPost_ret (v:=vN (C,N)) (by simp[results,results234,go_sem, *]) rfl (a6 _ g5.o _ J _ _)
end
section
variable {H U:Nat} {L R:List NQ} {A F:List Int} {ns Z g:Nat} {Y D M B:Value} {V:List V3} {K:Int->Prop}
def In(E:World->Prop)(w:World):Prop:=E w
def KdK(L:List NQ)(K:Int->Prop)(c:Nat)(y:Int):Prop:=K y/\∃ a,jM L y a/\cK a.d=c
structure Bw(H U:Nat)(L:List NQ)(A F:List Int)(ns:Nat)(Y D M B:Value)(V:List V3)(w W:World):Prop where
 f0:qQ H U L A F ns Y D M B V w
 fd:qQ H U L A F ns Y D M B V W
 fr:Fd B w W
section
variable {w W W2:World} {b:Nat} {o:Obj} {cs:Array Value} {t:TypeId}
theorem Bw.start(a:qQ H U L A F ns Y D M B V w):Bw H U L A F ns Y D M B V w w:=⟨a,a,Fd.refl _ _⟩
theorem Bw.vs(h:Bw H U L A F ns Y D M B V w W):∀ k,B.ownBlock=some k->k < w.1.size:=by
 obtain⟨c,a⟩:=h.f0.d;exact fun k e=>fC a e
theorem Bw.bz(h:Bw H U L A F ns Y D M B V w W)(a:gY H U L A F ns Y D M B V W W2):Bw H U L A F ns Y D M B V w W2:=⟨h.f0,a.1,h.fr.t a.2⟩
theorem Bw.post(h:Bw H U L A F ns Y D M B V w W)(a:Below W.1.size W W2):gY H U L A F ns Y D M B V W W2:=⟨h.fd.below a,Fd.of a⟩
theorem Bw.below(h:Bw H U L A F ns Y D M B V w W)(a:Below W.1.size W W2):Bw H U L A F ns Y D M B V w W2:=h.bz (h.post a)
theorem Bw.box(h:Bw H U L A F ns Y D M B V w W)(a:Fd B W W2)(c:w.1.size<=b)(q:W.1[b]?=some o):W2.1[b]?=some o:=
 (a.keep b Qg (fun e=>by have:=h.vs b e;omega)).t q
theorem Bw.set(h:Bw H U L A F ns Y D M B V w W)(q:w.1.size<=b)(j:Nat)(u:Value):Bw H U L A F ns Y D M B V w (W.setCell ⟨b,j,none⟩ u):=by
 have e:∀ k,k < w.1.size->(W.setCell ⟨b,j,none⟩ u).1[k]?=W.1[k]?:=(by grind[Below.heap_setCell]);obtain⟨y,x,s⟩:=h.fd.prog;obtain⟨_,_,v⟩:=h.f0.prog;obtain⟨p,m⟩:=h.fd.d
 exact⟨h.f0,⟨Qg,aR h.fd.nodes (fun k a=>e k (fC h.f0.nodes a)),aR h.fd.arrs (fun k a=>e k (fC h.f0.arrs a)),aR h.fd.fns (fun k a=>e k (fC h.f0.fns a)),⟨p,aR m (fun k a=>e k (h.vs k a))⟩,h.fd.c.move (fun k l=>by
  obtain⟨⟨c,r⟩,_⟩:=h.f0.c.typ l
  grind)⟩,⟨h.fr.os,h.fr.tape,h.fr.output,by simp[World.setCell];exact h.fr.size,fun k a f=>(e k a).t (h.fr.keep k a f)⟩⟩
theorem nV{x y u v:Value}(q:W.1[b]?=some (Qf #[x,y] t)):((W.setCell ⟨b,0,none⟩ u).setCell ⟨b,1,none⟩ v).1[b]?=some (Qf #[u,v] t):=aI (o:=1) v (aI (o:=0) u q)
theorem fG.set{d:Bool}(h:fG Z d g W)(q:W.1[b]?=some (.cells cs 230 (0,0)))(j:Nat)(u:Value):fG Z d g (W.setCell ⟨b,j,none⟩ u):=h.move (Om (h.ne q))
theorem Bw.kid(h:Bw H U L A F ns Y D M B V w W){a:NQ}{m r s:Value}(l:uA H w a (m,r,s)){i:Nat}{y:Int}(q:a.c[i]?=some y):∃ f J,m= Qe f a.c.length J/\W.cell? ⟨f,i,none⟩=some (Qc y):=by
 obtain⟨f,J,e,j,p⟩:=pZ l q;obtain⟨x,v⟩:=h.f0.d;refine⟨f,J,e,(Qo (h.fr.keep f p (fun u=>?_))).t j⟩;obtain⟨⟨c,j⟩,_⟩:=aW l.k (k:=f) (by rw[e];rfl)
 grind[cV]
theorem fG.al{d:Bool}(h:fG Z d g W):fG Z d g (W.alloc o):=h.below ((Below.refl _ _).alloc Oa _)
theorem fG.set2{d:Bool}(h:fG Z d g W){x y:Value}(q:W.1[b]?=some (Qf #[x,y] 230))(u v:Value):fG Z d g ((W.setCell ⟨b,0,none⟩ u).setCell ⟨b,1,none⟩ v):=(h.set q 0 u).set (aI (o:=0) u q) 1 v
end
structure Ck(H U:Nat)(L:List NQ)(A F:List Int)(ns:Nat)(Y D M B:Value)(V:List V3)(N:Nat)(E:World->Prop):Prop where
 fd:∀ W,In E W->qQ H U L A F ns Y D M B V W
 nx:∀ W W2,In E W->gY H U L A F ns Y D M B V W W2->In E W2
 far:∀ W b x y u v,In E W->N<=b->W.1[b]?=some (Qf #[x,y] 230)->In E ((W.setCell ⟨b,0,none⟩ u).setCell ⟨b,1,none⟩ v)
 far2:∀ W C b j u,In E W->In E C->C.1.size<=b->In E (W.setCell ⟨b,j,none⟩ u)
 sz:∀ W,In E W->N<=W.1.size
 vs:∀ k,B.ownBlock=some k->k < N
def Two(N Z:Nat)(E:World->Prop)(d1:Bool)(G:Nat)(O:Bool)(P:Nat)(v9 v10:Value)(W:World):Prop:=∃ b9 I,v9= Qd b9/\v10= Qd I/\(N<=b9/\N<=I)/\W.1[b9]?=some (kE d1 G Z)/\W.1[I]?=some (kE O P Z)/\In E W/\fG Z d1 G W/\fG Z O P W
section
variable {N:Nat} {E:World->Prop} {W C W2:World} {b c:Nat} {o:Obj} {d1 O:Bool} {G P:Nat}
theorem Ck.be(h:Ck H U L A F ns Y D M B V N E)(e:In E W)(a:Below W.1.size W W2):In E W2:=h.nx _ _ e ⟨(h.fd _ e).below a,Fd.of a⟩
theorem Ck.dr(h:Ck H U L A F ns Y D M B V N E)(a:In E W):In E W.drew:=h.be a (Below.refl _ _).drew
theorem Ck.al(h:Ck H U L A F ns Y D M B V N E)(a:In E W)(o:Obj):In E (W.alloc o):=h.be a ((Below.refl _ _).alloc Oa _)
theorem Ck.box(h:Ck H U L A F ns Y D M B V N E)(a:gY H U L A F ns Y D M B V W W2)(f:N<=b)(q:W.1[b]?=some o):W2.1[b]?=some o:=
 (a.2.keep b Qg (fun e=>by have:=h.vs b e;omega)).t q
theorem Ck.one(h:Ck H U L A F ns Y D M B V N E)(a:In E C)(e:gY H U L A F ns Y D M B V (C.alloc o).drew W2):W2.1[C.1.size]?=some o/\C.1.size < W2.1.size:=by
 have n:=h.box e (h.sz _ a) (Qk C o)
 grind
theorem Ck.two(h:Ck H U L A F ns Y D M B V N E)(a:In E C)(e:gY H U L A F ns Y D M B V ((C.alloc pY).alloc pY).drew W2):W2.1[C.1.size]?=some pY/\W2.1[C.1.size+1]?=some pY/\C.1.size < W2.1.size:=by
 have j:=h.box (b:=C.1.size+1) e (Nat.le_succ_of_le (h.sz _ a)) (by have:=Qk (C.alloc pY) pY;rwa [cP]at this);have f:=h.box e (h.sz _ a) ((On Od).t (Qk C pY))
 grind
theorem Ck.way1(h:Ck H U L A F ns Y D M B V N E)(a:In E W)(e:fG Z d1 G W)(f:fG Z O P W):Two N Z E d1 G O P (Qd W.1.size) (Qd (W.1.size+1)) ((W.alloc (kE d1 G Z)).alloc (kE O P Z)):=
 ⟨_,_,rfl,rfl,⟨h.sz _ a,Nat.le_succ_of_le (h.sz _ a)⟩,(by grind[Below.heap_alloc,heap_alloc_new]),by have:=Qk (W.alloc (kE d1 G Z)) (kE O P Z);rwa [cP]at this,h.al (h.al a _) _,e.al.al,f.al.al⟩
theorem Ck.way2(h:Ck H U L A F ns Y D M B V N E)(a:In E W)(e:fG Z d1 G W)(f:fG Z O P W):Two N Z E d1 G O P (Qd (W.1.size+1)) (Qd W.1.size) ((W.alloc (kE O P Z)).alloc (kE d1 G Z)):=
 ⟨_,_,rfl,rfl,⟨Nat.le_succ_of_le (h.sz _ a),h.sz _ a⟩,by have:=Qk (W.alloc (kE O P Z)) (kE d1 G Z);rwa [cP]at this,(by grind[Below.heap_alloc,heap_alloc_new]),h.al (h.al a _) _,e.al.al,f.al.al⟩
theorem Ck.way3(h:Ck H U L A F ns Y D M B V N E)(f:In E W)(a:fG Z d1 G W)(e:fG Z O P W)(j:N<=c)(n:W.1[c]?=some pY):Two N Z E d1 G O P (Qd c) (Qd W.1.size) (((W.setCell ⟨c,0,none⟩ (.bool d1)).setCell ⟨c,1,none⟩ (Qe G Z Z)).alloc (kE O P Z)):=
 have k:=(Oo n);have l:∀ u v:Value,((W.setCell ⟨c,0,none⟩ u).setCell ⟨c,1,none⟩ v).1.size=W.1.size:=Od
 ⟨_,_,rfl,rfl,Oa,(by grind[Below.heap_alloc,nV]),by have:=Qk ((W.setCell ⟨c,0,none⟩ (.bool d1)).setCell ⟨c,1,none⟩ (Qe G Z Z)) (kE O P Z);grind,h.al (h.far _ _ _ _ _ _ f j n) _,(a.set2 n _ _).al,(e.set2 n _ _).al⟩
theorem Ck.way4(h:Ck H U L A F ns Y D M B V N E)(p:In E W)(f:fG Z d1 G W)(j:fG Z O P W)(q:N<=c)(n:W.1[c]?=some pY):Two N Z E d1 G O P (Qd W.1.size) (Qd c) (((W.setCell ⟨c,0,none⟩ (.bool O)).setCell ⟨c,1,none⟩ (Qe P Z Z)).alloc (kE d1 G Z)):=by
 obtain⟨a,I,e1,e,⟨u,v⟩,r,s,k,l,m⟩:=h.way3 p j f q n;exact⟨I,a,e,e1,⟨v,u⟩,s,r,k,m,l⟩
theorem Ck.way5(h:Ck H U L A F ns Y D M B V N E)(j:In E W)(e:fG Z d1 G W)(f:fG Z O P W)(p:N<=b)(q:N<=c)(h0:b≠c)(n:W.1[b]?=some pY)(m:W.1[c]?=some pY):Two N Z E d1 G O P (Qd b) (Qd c) ((((W.setCell ⟨b,0,none⟩ (.bool d1)).setCell ⟨b,1,none⟩ (Qe G Z Z)).setCell ⟨c,0,none⟩ (.bool O)).setCell ⟨c,1,none⟩ (Qe P Z Z)):=
 have r:∀ {X:World} {u v:Value} {k l:Nat},k≠l->((X.setCell ⟨l,0,none⟩ u).setCell ⟨l,1,none⟩ v).1[k]?=X.1[k]?:=(by grind[Below.heap_setCell]);have a:=(r (X:=W) (u:= .bool d1) (v:= Qe G Z Z) h0.symm).t m
 ⟨_,_,rfl,rfl,Oa,(by grind[nV]),nV a,h.far _ _ _ _ _ _ (h.far _ _ _ _ _ _ j p n) q a,(e.set2 n _ _).set2 a _ _,(f.set2 n _ _).set2 a _ _⟩
def Twq(Z:Nat)(E:World->Prop)(d1:Bool)(G:Nat)(O:Bool)(P b c:Nat)(W:World):Prop:=In E W/\W.1[b]?=some (kE d1 G Z)/\W.1[c]?=some (kE O P Z)/\fG Z d1 G W/\fG Z O P W
theorem Ck.tw(h:Ck H U L A F ns Y D M B V N E)(l:N<=b)(m:N<=c):Ck H U L A F ns Y D M B V (max b c+1) (Twq Z E d1 G O P b c) where
 fd W hW:=h.fd W hW.1
 nx W W2 hW hp:=⟨h.nx _ _ hW.1 hp,h.box hp l hW.2.1,h.box hp m hW.2.2.1,hW.2.2.2.1.fd (h.fd _ hW.1) hp.2,hW.2.2.2.2.fd (h.fd _ hW.1) hp.2⟩
 far W a x y u v hW ha q:=by
  have f:∀ k,k≠a->((W.setCell ⟨a,0,none⟩ u).setCell ⟨a,1,none⟩ v).1[k]?=W.1[k]?:=(by grind[Below.heap_setCell]);exact⟨h.far _ _ _ _ _ _ hW.1 Oa q,(f _ Oa).t hW.2.1,(f _ Oa).t hW.2.2.1,hW.2.2.2.1.set2 q _ _,hW.2.2.2.2.set2 q _ _⟩
 far2 W C a j u hW hX ha:=by
  have f:∀ k,k < C.1.size->(W.setCell ⟨a,j,none⟩ u).1[k]?=W.1[k]?:=(by grind[Below.heap_setCell]);have lt:∀ {k:Nat} {o:Obj},C.1[k]?=some o->k < C.1.size:=Qg;exact⟨h.far2 _ _ _ _ _ hW.1 hX.1 ha,(f _ (lt hX.2.1)).t hW.2.1,(f _ (lt hX.2.2.1)).t hW.2.2.1,hW.2.2.2.1.move (f _ hX.2.2.2.1.lt),hW.2.2.2.2.move (f _ hX.2.2.2.2.lt)⟩
 sz W hW:=by have p:=(Oo hW.2.1);have r:=(Oo hW.2.2.1);omega
 vs k e:=by have:=h.vs k e;omega
def Ow(E:World->Prop)(a:Nat):Prop:=∀ W,In E W->(∃ x y,W.1[a]?=some (Qf #[x,y] 230))/\∀ u v,In E ((W.setCell ⟨a,0,none⟩ u).setCell ⟨a,1,none⟩ v)
theorem Ow.tw{a:Nat}(h:Ow E a)(l:b≠a)(m:c≠a):Ow (Twq Z E d1 G O P b c) a:=fun W e=>by
 obtain⟨⟨x,y,q⟩,j⟩:=h W e.1;have f:∀ {u v:Value} {k:Nat},k≠a->((W.setCell ⟨a,0,none⟩ u).setCell ⟨a,1,none⟩ v).1[k]?=W.1[k]?:=(by grind[Below.heap_setCell]);exact⟨Qh,fun u v=>⟨j u v,(f l).t e.2.1,(f m).t e.2.2.1,e.2.2.2.1.set2 q _ _,e.2.2.2.2.set2 q _ _⟩⟩
theorem Ow.cells{a:Nat}(h:Ow E a)(e:In E W):∃ x y,W.cell? ⟨a,0,none⟩=some x/\W.cell? ⟨a,1,none⟩=some y/\∀ o,W.frozen? ⟨a,o,none⟩=false:=by
 obtain⟨⟨x,y,q⟩,_⟩:=h W e;exact⟨x,y,Og q rfl,Og q rfl,(by grind[World.frozen?])⟩
theorem Ow.st{a:Nat}(h:Ow E a)(e:In E W)(f:fG Z d1 G W)(u v:Value):fG Z d1 G ((W.setCell ⟨a,0,none⟩ u).setCell ⟨a,1,none⟩ v):=by
 obtain⟨⟨x,y,q⟩,_⟩:=h W e;exact f.set2 q _ _
def Kl(H U:Nat)(L:List NQ)(A F:List Int)(ns:Nat)(Y D M B:Value)(V:List V3)(w:World)(own:List Nat)(Q:List (Nat × Obj))(W:World):Prop:=Bw H U L A F ns Y D M B V w W/\(∀ a∈own,∃ x y,W.1[a]?=some (Qf #[x,y] 230))/\∀ p∈Q,W.1[p.1]?=some p.2
variable {w:World} {own:List Nat} {Q:List (Nat × Obj)}
theorem Kl.ck(h0:qQ H U L A F ns Y D M B V w)(I:∀ a∈own,w.1.size<=a/\a < N)(z:∀ p∈Q,w.1.size<=p.1/\p.1 < N)(r:(∃ a∈own,N<=a+1)\/∃ p∈Q,N<=p.1+1)(J:w.1.size<=N):Ck H U L A F ns Y D M B V N (Kl H U L A F ns Y D M B V w own Q) where
 fd W h:=h.1.fd
 nx W W2 h m:=⟨h.1.bz m,fun a f=>by obtain⟨x,y,q⟩:=h.2.1 a f;exact⟨x,y,h.1.box m.2 Qh q⟩,fun p l=>h.1.box m.2 Qh (h.2.2 p l)⟩
 far W b x y u v h hb q:=by
  have s:∀ k,k≠b->((W.setCell ⟨b,0,none⟩ u).setCell ⟨b,1,none⟩ v).1[k]?=W.1[k]?:=(by grind[Below.heap_setCell]);exact⟨(h.1.set Oa _ _).set Oa _ _,fun a f=>by obtain⟨x,y,q⟩:=h.2.1 a f;grind,fun p l=>(s _ (Oi ((z p l).2))).t (h.2.2 p l)⟩
 far2 W C b j u h hX hb:=by
  have s:∀ k,k < C.1.size->(W.setCell ⟨b,j,none⟩ u).1[k]?=W.1[k]?:=(by grind[Below.heap_setCell]);have lt:∀ {k:Nat} {o:Obj},C.1[k]?=some o->k < C.1.size:=Qg;exact⟨h.1.set (Qm hX.1.fr.size hb) _ _,fun a f=>by obtain⟨x,y,q⟩:=h.2.1 a f;obtain⟨_,_,T⟩:=hX.2.1 a f;simp[*],fun p l=>(s _ (lt (hX.2.2 p l))).t (h.2.2 p l)⟩
 sz W h:=by
  rcases r with⟨a,f,r⟩|⟨p,m,r⟩
  ·obtain⟨x,y,q⟩:=h.2.1 a f
   grind
  ·have:=(Array.getElem?_eq_some_iff.1 (h.2.2 p m)).1;omega
 vs k e:=by have:=(Bw.start h0).vs k e;omega
theorem Kl.ow{a:Nat}(m:a∈own)(j:w.1.size<=a)(l:∀ p∈Q,p.1≠a):Ow (Kl H U L A F ns Y D M B V w own Q) a:=fun W h=>by
 obtain⟨x,y,q⟩:=h.2.1 a m;have s:∀ {u v:Value} {k:Nat},k≠a->((W.setCell ⟨a,0,none⟩ u).setCell ⟨a,1,none⟩ v).1[k]?=W.1[k]?:=(by grind[Below.heap_setCell])
 exact⟨Qh,fun u v=>⟨(h.1.set j _ _).set j _ _,fun b r=>by
  by_cases e:b=a
  ·subst e;exact⟨_,_,nV q⟩
  ·obtain⟨x,y,q⟩:=h.2.1 b r;simp[*],fun p f=>(s (l p f)).t (h.2.2 p f)⟩⟩
def aM3(H U:Nat)(L:List NQ)(A F:List Int)(ns Z:Nat)(Y D M B:Value)(V:List V3)(w:World):Ending->World->Prop:=fun e w'=>∃ d g,e= .returned (oH d g Z)/\fG Z d g w'/\gY H U L A F ns Y D M B V w w'
def Ad(E:World->Prop)(b:Nat)(o:Obj)(W:World):Prop:=In E W/\W.1[b]?=some o
theorem Ck.ad(h:Ck H U L A F ns Y D M B V N E)(f:N<=b):Ck H U L A F ns Y D M B V (b+1) (Ad E b o) where
 fd W hW:=h.fd W hW.1
 nx W W2 hW hp:=⟨h.nx _ _ hW.1 hp,h.box hp f hW.2⟩
 far W a x y u v hW ha q:=⟨h.far _ _ _ _ _ _ hW.1 Oa q,((Om (by show b≠a;omega)).t (Om (by show b≠a;omega))).t hW.2⟩
 far2 W C a j u hW hX ha:=⟨h.far2 _ _ _ _ _ hW.1 hX.1 ha,(Om (by have:=(Oo hX.2);grind)).t hW.2⟩
 sz W hW:=(Oo hW.2)
 vs k e:=by have:=h.vs k e;omega
theorem Ow.ad{a:Nat}(h:Ow E a)(f:b≠a):Ow (Ad E b o) a:=fun W e=>by
 obtain⟨⟨x,y,q⟩,j⟩:=h W e.1;exact⟨Qh,fun u v=>⟨j u v,((Om f).t (Om f)).t e.2⟩⟩
def Ads(Z:Nat)(E:World->Prop)(d:Bool)(g:Nat)(W:World):Prop:=In E W/\fG Z d g W
theorem Ck.ads(h:Ck H U L A F ns Y D M B V N E):Ck H U L A F ns Y D M B V N (Ads Z E d1 G) where
 fd W hW:=h.fd W hW.1
 nx W W2 hW hp:=⟨h.nx _ _ hW.1 hp,hW.2.fd (h.fd _ hW.1) hp.2⟩
 far W a x y u v hW ha q:=⟨h.far _ _ _ _ _ _ hW.1 ha q,hW.2.set2 q _ _⟩
 far2 W C a j u hW hX ha:=⟨h.far2 _ _ _ _ _ hW.1 hX.1 ha,hW.2.move (Om (by have:=hX.2.lt;grind))⟩
 sz W hW:=h.sz W hW.1
 vs:=h.vs
theorem Ow.ads{a:Nat}(h:Ow E a):Ow (Ads Z E d1 G) a:=fun W e=>by
 obtain⟨⟨x,y,q⟩,f⟩:=h W e.1;exact⟨Qh,fun u v=>⟨f u v,e.2.set2 q _ _⟩⟩
def One(N:Nat)(E:World->Prop)(o:Obj)(v:Value)(W:World):Prop:=∃ b,v= Qd b/\N<=b/\W.1[b]?=some o/\In E W
theorem Ck.wayA(h:Ck H U L A F ns Y D M B V N E)(a:In E W):One N E o (Qd W.1.size) (W.alloc o):=⟨_,rfl,h.sz _ a,Qk W o,h.al a _⟩
theorem Ck.wayB(h:Ck H U L A F ns Y D M B V N E)(a:In E C)(e:In E W){x y u v:Value}{t:TypeId}(n:W.1[C.1.size]?=some (Qf #[x,y] t)):One N E (Qf #[u,v] t) (Qd C.1.size) ((W.setCell ⟨C.1.size,0,none⟩ u).setCell ⟨C.1.size,1,none⟩ v):=
 ⟨_,rfl,h.sz _ a,nV n,h.far2 _ _ _ _ _ (h.far2 _ _ _ _ _ e a Oa) a Oa⟩
def Ao(E:World->Prop)(b:Nat)(W:World):Prop:=In E W/\∃ x y,W.1[b]?=some (Qf #[x,y] 230)
theorem Ck.ao(h:Ck H U L A F ns Y D M B V N E)(f:N<=b):Ck H U L A F ns Y D M B V (b+1) (Ao E b) where
 fd W hW:=h.fd W hW.1
 nx W W2 hW hp:=by obtain⟨x,y,q⟩:=hW.2;exact⟨h.nx _ _ hW.1 hp,x,y,h.box hp f q⟩
 far W a x y u v hW ha q:=by obtain⟨x,y,m⟩:=hW.2;exact⟨h.far _ _ _ _ _ _ hW.1 Oa q,x,y,(by grind[Below.heap_setCell])⟩
 far2 W C a j u hW hX ha:=by obtain⟨x,y,q⟩:=hW.2;obtain⟨_,_,l⟩:=hX.2;exact⟨h.far2 _ _ _ _ _ hW.1 hX.1 ha,x,y,(by grind[Below.heap_setCell,Array.getElem?_eq_some_iff])⟩
 sz W hW:=by obtain⟨x,y,q⟩:=hW.2;grind
 vs k e:=by have:=h.vs k e;omega
theorem Ow.ao{a:Nat}(h:Ow E a)(f:b≠a):Ow (Ao E b) a:=fun W e=>by
 obtain⟨⟨x,y,q⟩,j⟩:=h W e.1;obtain⟨l,m,k⟩:=e.2;exact⟨Qh,fun u v=>⟨j u v,l,m,((Om f).t (Om f)).t k⟩⟩
theorem Ck.mine(h:Ck H U L A F ns Y D M B V N E)(e:N<=b):Ow (Ao E b) b:=fun W a=>by
 obtain⟨x,y,q⟩:=a.2;exact⟨Qh,fun u v=>⟨h.far _ _ _ _ _ _ a.1 e q,_,_,nV q⟩⟩
end
end
section
def aXD(L0 L:List NQ)(A F:List Int)(ns:Nat)(x:Int):Prop:=∃ (f:NQ) (Z:Nat) (b:Int) (K Kw:Int->Prop),jM L x f/\f.b=(Z:Int)/\Z<=100000/\f.g.length<=Z/\f.e.length<=100000/\f.c=[b]/\Nok L0 L A F Z ns K/\KdK L K 3 b/\Nok L0 L A F Z ns Kw/\∀ c∈f.e,∃ (n:NQ) (y z:Int),jM L c n/\n.c=[y,z]/\ExK L Kw y/\ExK L Kw z
variable {H U ns:Nat} {L C:List NQ} {A F:List Int} {Y D M B:Value} {V:List V3} {w w' w2:World}
structure Sit(ns:Nat)(L C:List NQ):Prop where
 len:C.length=L.length
 at_:∀ (i:Nat) n,L[i]?=some n->∃ s:Int,C[i]?=some {n with f:=s}/\(s < ns\/s=n.f)
theorem Sit.refl(ns:Nat)(L:List NQ):Sit ns L L:=⟨rfl,fun _ n h=>⟨n.f,h,Oa⟩⟩
theorem Sit.set(h:Sit ns L C){i:Nat}{a:NQ}(m:C[i]?=some a){s:Int}(p:s < ns):Sit ns L (C.set i {a with f:=s}):=⟨by rw[List.length_set];exact h.len,fun j n e=>by
 obtain⟨t,k,l⟩:=h.at_ j n e
 grind⟩
theorem aG6:∀ (L:List NQ) (V:List V3) (i:Nat) (a:NQ) (r:Int),L[i]?=some a->L.length=V.length->mM (L.set i {a with f:=r}) V=(mM L V).set (i*11+10) (Qc r)
 |b::L,u::V,0,a,r,h1,_=>by
  simp only[List.getElem?_cons_zero,Option.some.injEq]at h1;subst h1;rfl
 |b::L,u::V,i+1,a,r,h1,h2=>by
  show NdV b u++mM (L.set i {a with f:=r}) V=(NdV b u++mM L V).set _ _;rw[aG6 L V i a r Qi Qg];have e:(NdV b u).length=11:=rfl
  grind
 |[],_,_,_,_,h1,_=>by rfl
 |b::L,[],_,_,_,_,h2=>by simp at h2
theorem kZ.sits{a:NQ}{r:Int}:∀ {L:List NQ} {V:List V3} {i:Nat},kZ H w L V->L[i]?=some a->kZ H w (L.set i {a with f:=r}) V:=by
 intro L
 induction L with
 |nil=>simp
 |cons c L ih=>
  intro V i h e;cases V with
  |nil=>trivial
  |cons u V=>
   cases i with
   |zero=>
    simp only[List.getElem?_cons_zero,Option.some.injEq]at e;subst e;exact⟨⟨h.1.k,h.1.p,h.1.h⟩,h.2⟩
   |succ i=>exact⟨h.1,ih h.2 Qi⟩
structure Fz(Y B:Value)(w w':World):Prop where
 os:w'.os=w.os
 tape:w'.tape=w.tape
 output:w'.output=w.output
 size:w.1.size<=w'.1.size
 keep:∀ k,k < w.1.size->B.ownBlock≠some k->Y.ownBlock≠some k->w'.1[k]?=w.1[k]?
structure SrW(H U:Nat)(L:List NQ)(A F:List Int)(ns:Nat)(Y D M B:Value)(V:List V3)(w w':World):Prop where
 fd:qQ H U L A F ns Y D M B V w'
 fz:Fz Y B w w'
 st:∃ xs:Sl,xs.length=ns/\w'.ownsRow H 55 3 B ns (dK xs)
theorem aI6:∀ (S:Sl) (i:Nat) (x:Int × Int),S[i]?=some x->(dK S)[i*3]?=some (Qc x.1)/\(dK S)[i*3+1]?=some (Qc x.2)/\(dK S)[i*3+2]?=some (.bool false)
 |[],_,_,h=>by simp at h
 |y::S,0,x,h=>by
  simp only[List.getElem?_cons_zero,Option.some.injEq]at h;subst h;trivial
 |y::S,i+1,x,h=>by
  obtain⟨a,e,f⟩:=aI6 S i x (by simpa using h)
  grind[dK]
theorem aF6(a b:Int):∀ (S:Sl) (i:Nat),i < S.length->(((dK S).set (i*3) (Qc a)).set (i*3+1) (Qc b)).set (i*3+2) (.bool false)=dK (S.set i (a,b))
 |[],_,h=>rfl
 |y::S,0,_=>rfl
 |y::S,i+1,h=>by
  have:=aF6 a b S i Qg
  grind[dK]
theorem SrW.below(h:SrW H U L A F ns Y D M B V w w')(a:Below w'.1.size w' w2):SrW H U L A F ns Y D M B V w w2:=by
 obtain⟨m,l,f⟩:=h.st;exact⟨h.fd.below a,⟨a.os.t h.fz.os,a.tape.t h.fz.tape,a.output.t h.fz.output,Qm h.fz.size a.size,fun k e e1 j=>(a.block k (Nat.lt_of_lt_of_le e h.fz.size)).t (h.fz.keep k e e1 j)⟩,m,l,aR f (fun k e=>a.block k (fC f e))⟩
theorem SrW.at_{ad:Option Addr}{cs:Nat}(h:SrW H U L A F ns Y D M (.slice ad ns cs) V w w')(l:0 < ns):∃ g,ad=some ⟨g,0,none⟩:=by
 obtain⟨p,k,a⟩:=h.st;rcases a.2 with⟨_,h⟩|⟨j,e,f,m,_⟩
 ·omega
 grind
theorem SrW.f(h:SrW H U L A F ns Y D M B V w w'){g J:Nat}(p:B= Qe g ns J){i:Nat}(hi:i < ns):∃ a b:Int,w'.cell? ⟨g,i*3,none⟩=some (Qc a)/\w'.cell? ⟨g,i*3+1,none⟩=some (Qc b)/\w'.cell? ⟨g,i*3+2,none⟩=some (.bool false)/\∀ o,w'.frozen? ⟨g,o,none⟩=false:=by
 obtain⟨f,v,q⟩:=h.st;obtain⟨x,l⟩:∃ x,f[i]?=some x:=Qh;obtain⟨c1,c2,c3⟩:=aI6 f i x l;rcases q.2 with⟨_,h⟩|⟨u,r,s,h0,_,k,y,_,cP,m⟩
 ·omega
 rw[p]at h0;simp only[Value.slice.injEq,Option.some.injEq,Addr.mk.injEq]at h0;obtain⟨⟨rfl,_⟩,_,rfl⟩:=h0
 have e:∀ j,j < ns*3->w'.cell? ⟨g,j,none⟩=(dK f)[j]?:=fun j e=>by
  rw[cell_of_row _ _ _ _ _ _ k,<-m,List.getElem?_take,if_pos e];simp
 exact⟨x.1,x.2,by rw[e _ Oa];exact c1,by rw[e _ Oa];exact c2,by rw[e _ Oa];exact c3,fun o=>by simp[World.frozen?,k]⟩
theorem SrW.put(h:SrW H U L A F ns Y D M B V w w'){g J:Nat}(j:B= Qe g ns J){i:Nat}(hi:i < ns)(a b:Int):SrW H U L A F ns Y D M B V w (((w'.setCell ⟨g,i*3,none⟩ (Qc a)).setCell ⟨g,i*3+1,none⟩ (Qc b)).setCell ⟨g,i*3+2,none⟩ (.bool false)):=by
 obtain⟨f,h1,m⟩:=h.st;have a6:=m;obtain⟨s,T⟩:=m;rcases T with⟨_,h⟩|⟨g2,a2,a3,h0,x,y,u,v,cP,a5⟩
 ·omega
 rw[j]at h0;simp only[Value.slice.injEq,Option.some.injEq,Addr.mk.injEq]at h0;obtain⟨⟨rfl,_⟩,_,rfl⟩:=h0;have mv:∀ k,k≠g->(((w'.setCell ⟨g,i*3,none⟩ (Qc a)).setCell ⟨g,i*3+1,none⟩ (Qc b)).setCell ⟨g,i*3+2,none⟩ (.bool false)).1[k]?=w'.1[k]?:=(by grind[Below.heap_setCell]);have off:∀ {k:Nat} {cs:Array Value} {t:TypeId},w'.1[k]?=some (.cells cs t (0,0))->t≠55->(((w'.setCell ⟨g,i*3,none⟩ (Qc a)).setCell ⟨g,i*3+1,none⟩ (Qc b)).setCell ⟨g,i*3+2,none⟩ (.bool false)).1[k]?=w'.1[k]?:=Qg;have l:∀ {n p:Nat} {e:TypeId} {z:Value} {f:List Value},w'.ownsRow H e p z n f->e≠55->(((w'.setCell ⟨g,i*3,none⟩ (Qc a)).setCell ⟨g,i*3+1,none⟩ (Qc b)).setCell ⟨g,i*3+2,none⟩ (.bool false)).ownsRow H e p z n f:=(by grind[aR,aW]);have hz:w'.1.size<=(((w'.setCell ⟨g,i*3,none⟩ (Qc a)).setCell ⟨g,i*3+1,none⟩ (Qc b)).setCell ⟨g,i*3+2,none⟩ (.bool false)).1.size:=Od
 have r:(((w'.setCell ⟨g,i*3,none⟩ (Qc a)).setCell ⟨g,i*3+1,none⟩ (Qc b)).setCell ⟨g,i*3+2,none⟩ (.bool false)).ownsRow H 55 3 B ns (dK (f.set i (a,b))):=by
  rw[<-aF6 a b f i Oa];refine⟨by simp[s],.r ⟨g,J,_,j,x,aI _ (aI _ (aI _ y)),u,v,by simp[cP],?_⟩⟩
  grind[Array.toList_setIfInBounds,List.take_set]
 obtain⟨vI,a7,hp⟩:=h.fd.prog
 refine⟨⟨Qg,l h.fd.nodes Ob,l h.fd.arrs Ob,l h.fd.fns Ob,Qg,h.fd.c.move (fun k X=>by
  obtain⟨⟨c,a4⟩,_⟩:=h.fd.c.typ X
  grind)⟩,⟨h.fz.os,h.fz.tape,h.fz.output,Qm h.fz.size hz,fun k I e1 q=>(mv k (fun e=>e1 (by rw[j];simp[Value.ownBlock,e]))).t (h.fz.keep k I e1 q)⟩,_,Qh,r⟩
theorem SrW.node(h:SrW H U L A F ns Y D M B V w w'){i:Nat}{a:NQ}(hi:L[i]?=some a)(r:Int){g J:Nat}(l:Y= Qe g L.length J):
 (∀ o,w'.frozen? ⟨g,o,none⟩=false)/\SrW H U (L.set i {a with f:=r}) A F ns Y D M B V w (w'.setCell ⟨g,i*11+10,none⟩ (Qc r)):=by
 have a5:=(List.getElem?_eq_some_iff.1 hi).1;obtain⟨y,hr⟩:=h.fd.nodes;rcases hr with⟨_,hn⟩|⟨g2,a2,s,h0,X,hc,z,T,cP,x⟩
 ·omega
 rw[l]at h0;simp only[Value.slice.injEq,Option.some.injEq,Addr.mk.injEq]at h0;obtain⟨⟨rfl,_⟩,_,rfl⟩:=h0;have mv:∀ k,k≠g->(w'.setCell ⟨g,i*11+10,none⟩ (Qc r)).1[k]?=w'.1[k]?:=(by grind[Below.heap_setCell]);have off:∀ {k:Nat} {cs:Array Value} {t:TypeId},w'.1[k]?=some (.cells cs t (0,0))->t≠73->(w'.setCell ⟨g,i*11+10,none⟩ (Qc r)).1[k]?=w'.1[k]?:=Qg;have p:∀ {n q:Nat} {e:TypeId} {v:Value} {j:List Value},w'.ownsRow H e q v n j->e≠73->(w'.setCell ⟨g,i*11+10,none⟩ (Qc r)).ownsRow H e q v n j:=(by grind[aR,aW]);have a4:(mM L V).length=L.length*11:=y;obtain⟨vI,a6,hp⟩:=h.fd.prog;obtain⟨j,u,hx⟩:=h.st
 have I:kZ H (w'.setCell ⟨g,i*11+10,none⟩ (Qc r)) L V:=h.fd.c.move (fun k hu=>by
  obtain⟨⟨c,a3⟩,_⟩:=h.fd.c.typ hu
  grind)
 refine⟨(by grind[World.frozen?]),⟨Qg,?_,p h.fd.arrs Ob,p h.fd.fns Ob,Qg,kZ.sits I hi⟩,⟨h.fz.os,h.fz.tape,h.fz.output,Qm h.fz.size Od,fun k hk e1 m=>(mv k (fun e=>m (by rw[l];simp[Value.ownBlock,e]))).t (h.fz.keep k hk e1 m)⟩,j,u,Qh⟩;rw[aG6 L V i a r hi h.fd.c.len,List.length_set];refine⟨Qh,.r ⟨g,J,s.setIfInBounds (i*11+10) (Qc r),l,X,aI _ hc,z,T,by simp[cP],?_⟩⟩;rw[Array.toList_setIfInBounds,List.take_set,x]
theorem aR3(hZ:L.length<=100000)(d8:ns<=1000000)(w:World)(hw:SrW H U L A F ns Y D M B V w w):
 Calls prog 66 #[Qd U] w fun e w'=>e= .returned (.tuple #[])/\∃ C,SrW H U C A F ns Y D M B V w w'/\Sit ns L C:=by
 obtain⟨al,p,rfl,_⟩:=bP hw.fd.nodes;obtain⟨xs,_,hx⟩:=hw.st;obtain⟨ad,cs,rfl,_⟩:=bP hx
 have x:∀ C W,SrW H U C A F ns (.slice al L.length p) D M (.slice ad ns cs) V w W->W.cell? ⟨U,5,none⟩=some (.slice ad ns cs)/\W.cell? ⟨U,0,none⟩=some (.slice al L.length p):=fun C W h=>by
  obtain⟨vI,r,hp⟩:=h.fd.prog;exact⟨Og hp rfl,Og hp rfl⟩
 have HW:Hid (SrW H U L A F ns (.slice al L.length p) D M (.slice ad ns cs) V w w):=hw;clear hx hw;have c5:0<=(ns:Int)/\(ns:Int)<=1000000:=Oa
 go_enter func66,ntmps66
 go_upto_region 1 with fail
 go_loopg [2] (ns+1) (fun n v2 wr=>∃ i:Nat,v2= Qc (i:Nat)/\i+n=ns+1/\i<=ns/\SrW H U L A F ns (.slice al L.length p) D M (.slice ad ns cs) V w wr)
 case atStart=>exact⟨0,rfl,Od,Od,HW.o⟩
 case round=>
  clear HW;obtain⟨i,rfl,k8,k9,j⟩:=hrel;obtain⟨m,c0⟩:=x L wr j;have f:Hid (SrW H U L A F ns (.slice al L.length p) D M (.slice ad ns cs) V w wr):=j;clear j
  by_cases hi:i < ns
  ·have t0:decide ((i:Int) < (ns:Int))=true:=by simp;omega
   obtain⟨r,rfl⟩:=Oj gk;have k6:IntKind.i64.wrap ((i:Int)+1)=(i:Int)+1:=IntWalk.i64_in _ Oa;go_wp2;go_loopg [3] (i+1) (fun n v3 wr=>∃ l:Nat,v3= Qc (l:Nat)/\l+1=n/\l<=i/\SrW H U L A F ns (.slice al L.length p) D M (.slice ad ns cs) V w wr)
   case atStart=>exact⟨i,rfl,rfl,Ql _,f.o⟩
   case round=>
    clear f m c0;obtain⟨l,rfl,c8,c7,j⟩:=hrel;obtain⟨m,c0⟩:=x L wr j;have f:Hid (SrW H U L A F ns (.slice al L.length p) D M (.slice ad ns cs) V w wr):=j;clear j
    by_cases hj:0 < l
    ·obtain⟨m2,rfl⟩:∃ r,gk=r+1:=⟨gk - 1,Oa⟩;obtain⟨u,hp⟩:∃ u,u+1=l:=⟨l - 1,Oa⟩;have t1:decide ((l:Int) > 0)=true:=by simp;omega
     have e2:IntKind.i64.wrap ((l:Int) - 1)=(u:Int):=by rw[IntWalk.i64_in _ Oa];omega
     have b8:0<=(l:Int)/\(l:Int) < (ns:Int):=Oa
     have c6:0<=(u:Int)/\(u:Int) < (ns:Int):=Oa
     obtain⟨s,h0⟩:=f.o.at_ Oa;obtain⟨a,b,a0,a1,I,af⟩:=f.o.f (g:=s) (J:=cs) (by rw[h0]) (i:=l) Oa;obtain⟨c,d,d0,d1,d2,_⟩:=f.o.f (g:=s) (J:=cs) (by rw[h0]) (i:=u) Oa;rw[h0]at m
     by_cases k1:b < d
     ·have t2:decide (b < d)=true:=by simpa using k1
      go_upto_region 4 with fail
      go_quiet (fail)
      have G:=f.o.below (iJ (Below.refl _ _) nq);clear f a0 a1 I af d0 d1 d2 m c0 k1 t2;go_upto_region 6 with fail
      generalize wr.drewN nq=wq at*;obtain⟨m,c0⟩:=x L wq G;rw[h0]at m;obtain⟨a,b,a0,a1,I,af⟩:=G.f (g:=s) (J:=cs) (by rw[h0]) (i:=l) Oa;obtain⟨c,d,d0,d1,d2,_⟩:=G.f (g:=s) (J:=cs) (by rw[h0]) (i:=u) Oa;have k4:Hid (SrW H U L A F ns (.slice al L.length p) D M (.slice ad ns cs) V w wq):=G;have y1:=Qp _ _ a0;have y0:=Qp _ _ m;dsimp only at y1 y0;clear G
      have d7:U≠s:=by
       obtain⟨vI,mm,k7⟩:=k4.o.fd.prog;obtain⟨ys,_,hy⟩:=k4.o.st;exact fun e=>cV hy k7 Ob (by rw[h0,e];rfl)
      go_upto_region 7 with fail
      go_region
      go_upto_region 8 with fail
      go_region
      all_goals go_wp2
      all_goals go_roundg m2
      all_goals try (case rel=>
       have h2:=(k4.o.put (g:=s) (J:=cs) (by rw[h0]) (i:=l) Oa c d).put (g:=s) (J:=cs) (by rw[h0]) (i:=u) Oa a b;exact⟨u,rfl,Oa,Oa,h2.below (by first|exact((Below.refl _ _).alloc Ol _).drew.drew|exact((Below.refl _ _).drew.alloc Ol _).drew|exact((Below.refl _ _).alloc Ol _).drew)⟩)
      all_goals try (case measure=>omega)
     ·have t2:decide (b < d)=false:=by simpa using k1
      go_upto_region 4 with fail
      go_quiet (fail)
      have G:=f.o.below (iJ (Below.refl _ _) nq);clear f;go_wp2;go_roundg r
      case rel=>exact⟨i+1,Od,Oa,Oa,G⟩
      case measure=>omega
    ·have t1:decide ((l:Int) > 0)=false:=by simp;omega
     go_upto_region 4 with fail
     go_quiet (fail)
     have G:=f.o.below (iJ (Below.refl _ _) nq);clear f;go_wp2;go_roundg r
     case rel=>exact⟨i+1,Od,Oa,Oa,G⟩
     case measure=>omega
  ·have t0:decide ((i:Int) < (ns:Int))=false:=by simp;omega
   go_wp2;go_loopg [5] (L.length+1) (fun n v5 wr=>∃ (k:Nat) (C:List NQ),v5= Qc (k:Nat)/\k+n=L.length+1/\k<=L.length/\SrW H U C A F ns (.slice al L.length p) D M (.slice ad ns cs) V w wr/\Sit ns L C)
   case atStart=>exact⟨0,L,rfl,Od,Od,f.o,Sit.refl ns L⟩
   case round=>
    clear f m c0;obtain⟨k,C,rfl,d6,d5,j,q⟩:=hrel;obtain⟨m,c0⟩:=x C wr j;have f:Hid (SrW H U C A F ns (.slice al L.length p) D M (.slice ad ns cs) V w wr):=j;clear j
    by_cases hk:k < L.length
    ·have t1:decide ((k:Int) < (L.length:Int))=true:=by simp;omega
     obtain⟨r,rfl⟩:=Oj gk;have k6:IntKind.i64.wrap ((k:Int)+1)=(k:Int)+1:=IntWalk.i64_in _ Oa;have b9:0<=(k:Int)/\(k:Int) < (L.length:Int):=Oa
     obtain⟨n,hn⟩:∃ n,C[k]?=some n:=⟨C[k]'(by rw[q.len];exact hk),List.getElem?_eq_getElem _⟩;obtain⟨k',gr,a9,b1,c1,b2,c2,b3,c3,d3,_,h9,_,_,e0,e1,_⟩:=f.o.fd.p0 (y:=(k:Int)) (a:=n) ⟨Oa,by simpa using hn⟩;obtain rfl:k=k':=Oa
     rw[q.len]at h9;simp only[Value.slice.injEq]at h9;obtain⟨iM,-,-⟩:=h9;rw[iM]at c0;have h7:Hid (al=some ⟨gr,0,none⟩):=iM;clear e1 iM
     have k5:(n.d !=5)=false\/((n.d !=5)=true/\(n.d !=14)=false)\/((n.d !=5)=true/\(n.d !=14)=true/\(n.d !=6)=false)\/((n.d !=5)=true/\(n.d !=14)=true/\(n.d !=6)=true/\(n.d !=8)=false)\/((n.d !=5)=true/\(n.d !=14)=true/\(n.d !=6)=true/\(n.d !=8)=true):=by
      cases(n.d !=5)<;>cases(n.d !=14)<;>cases(n.d !=6)<;>cases(n.d !=8)<;>simp
     go_upto_region 13 with fail
     go_cut [101]from 88 to 101 (fun a2 w'=>∃ t:Bool,a2= .bool t/\wr=w')
     case first=>
      rcases k5 with h5|⟨h5,k2⟩|⟨h5,k2,h6⟩|⟨h5,k2,h6,h8⟩|⟨h5,k2,h6,h8⟩
      all_goals go_wp2
      all_goals go_meet
      all_goals exact⟨_,rfl,rfl⟩
     case rest=>
      obtain⟨t,rfl,rfl⟩:=hcut;cases t
      case true=>
       go_wp2;go_roundg r
       case rel=>exact⟨k+1,C,Od,Oa,Oa,f.o,q⟩
       case measure=>omega
      case false=>
       clear k5;go_wp2;go_loopg [7] (ns+1) (fun n v7 wr=>∃ (i:Nat) (C:List NQ),v7= Qc (i:Nat)/\i+n=ns+1/\i<=ns/\SrW H U C A F ns (.slice al L.length p) D M (.slice ad ns cs) V w wr/\Sit ns L C)
       case atStart=>exact⟨0,C,rfl,Od,Od,f.o,q⟩
       case round=>
        clear f q m c0 e0 hn;obtain⟨i,v,rfl,k8,k9,j,q⟩:=hrel;obtain⟨m,c0⟩:=x v wr j;have f:Hid (SrW H U v A F ns (.slice al L.length p) D M (.slice ad ns cs) V w wr):=j;clear j;rw[h7.o]at c0
        by_cases hi:i < ns
        ·have t2:decide ((i:Int) < (ns:Int))=true:=by simp;omega
         obtain⟨m2,rfl⟩:∃ r,gk=r+1:=⟨gk - 1,Oa⟩;have d9:IntKind.i64.wrap ((i:Int)+1)=(i:Int)+1:=IntWalk.i64_in _ Oa;have b7:0<=(i:Int)/\(i:Int) < (ns:Int):=Oa
         obtain⟨z,X⟩:∃ n,v[k]?=some n:=⟨v[k]'(by rw[q.len];exact hk),List.getElem?_eq_getElem _⟩;obtain⟨k',b6,b4,a3,a6,a4,a7,a5,a8,d4,_,T,_,_,e0,e1,_⟩:=f.o.fd.p0 (y:=(k:Int)) (a:=z) ⟨Oa,by simpa using X⟩;obtain rfl:k=k':=Oa
         have h3:=T;rw[h7.o]at T;simp only[Value.slice.injEq,Option.some.injEq,Addr.mk.injEq]at T;obtain⟨⟨rfl,-⟩,-,-⟩:=T;obtain⟨s,h0⟩:=f.o.at_ Oa;obtain⟨a,b,a0,a1,I,_⟩:=f.o.f (g:=s) (J:=cs) (by rw[h0]) (i:=i) Oa;rw[h0]at m;have y2:Hid _:=h3;clear h0 h3
         by_cases hb:b=z.at_
         ·have t3:(b==z.at_)=true:=by simpa using hb
          clear hb e0;go_upto_region 17 with fail
          go_quiet (fail)
          have G:=f.o.below (iJ (Below.refl _ _) nq);clear f a0 a1 I e1 m c0 t3;go_upto_region 18 with fail
          generalize wr.drewN nq=wq at*;obtain⟨_,c0⟩:=x v wq G;rw[h7.o]at c0;obtain⟨fr,hN⟩:=G.node X (i:Int) y2.o;obtain⟨k3,g3,_,_,_,_,_,_,_,c9,_,k0,_,_,_,_,_,_,_,_,_,_,_,_,b5⟩:=G.fd.p0 (y:=(k:Int)) (a:=z) ⟨Oa,by simpa using X⟩;obtain rfl:k=k3:=Oa
          rw[h7.o]at k0;simp only[Value.slice.injEq,Option.some.injEq,Addr.mk.injEq]at k0;obtain⟨⟨rfl,-⟩,-,-⟩:=k0;have HN:Hid _:=hN;clear hN G;go_wp2;go_roundg m2
          case rel=>exact⟨i+1,_,Od,Oa,Oa,HN.o,q.set X Oa⟩
          case measure=>omega
         ·have t3:(b==z.at_)=false:=by simpa using hb
          clear hb e0;go_upto_region 17 with fail
          go_quiet (fail)
          have G:=f.o.below (iJ (Below.refl _ _) nq);clear f;go_wp2;go_roundg m2
          case rel=>exact⟨i+1,v,Od,Oa,Oa,G,q⟩
          case measure=>omega
        ·have t2:decide ((i:Int) < (ns:Int))=false:=by simp;omega
         go_wp2;go_roundg r
         case rel=>exact⟨k+1,v,Od,Oa,Oa,f.o,q⟩
         case measure=>omega
    ·have t1:decide ((k:Int) < (L.length:Int))=false:=by simp;omega
     go_wp2;go_end0
     exact⟨rfl,C,f.o,q⟩
end
section
section
variable {P:Program} {Z:Array Oper} {Q:Exit->Act->World->Prop} {B:Region.Mode} {S:World->Prop} {c:Nat}
def tD(P:Program)(B:Region.Mode)(Z:Array Oper)(Q:Exit->Act->World->Prop)(S:World->Prop)(c:Nat):Nat->Array Bool->Act->World->Prop
 |0,l,a,w=>Region.ready B Z l=[]/\Q .normal a w
 |n+1,l,a,w=>(Region.ready B Z l=[]->Q .normal a w)/\∀ i∈Region.ready B Z l,wpOp P Z Q i (fun a' w'=>((l.setIfInBounds i true).getD c true=false->S w')/\tD P B Z Q S c n (l.setIfInBounds i true) a' w') a w
theorem aHQ:∀ (n:Nat) (l:Array Bool) (a:Act) (w:World),tD P B Z Q S c n l a w->wpAny P B Z Q n l a w
 |0,_,_,_,h=>h
 |n+1,_,_,_,h=>⟨h.1,fun i hi=>wpOp_mono (fun e w' f=>aHQ n _ e w' f.2) (h.2 i hi)⟩
def aWF(B:Region.Mode)(Z:Array Oper)(i:Nat)(D:List Nat):Prop:=∀ d∈D,∃ o,Z[d]?=some o/\∃ e∈o.after,Region.binds B e=true/\(e.on=i\/e.on∈D)
theorem aWF.not{i j:Nat}{D:List Nat}{l:Array Bool}(h:aWF B Z i D)(hi:l.getD i true=false)(q:∀ d∈D,l.getD d true=false)(v:j∈Region.ready B Z l):j ∉ D:=fun s=>by
 obtain⟨o,x,e,u,r,p⟩:=h j s;obtain⟨_,z,m,h0⟩:=mem_ready.1 v;rw[x]at m;cases m;have a:=h0 e u r;have f:l.getD e.on true=false:=p.elim (fun y=>by rw[y];exact hi) (q _);rcases Qt e.on l.size with k|k
 ·simp[k]at a f;rw[a]at f;cases f
 ·simp[Array.getElem?_eq_none k]at a
theorem aK5{i:Nat}{m:Oper}{v:Value}{D:List Nat}(hi:Z[i]?=some m)(hs:Region.noSelect Z=true)(hQ:∀ x a w,Q (.panic x) (a.put m.dst v) w->Q (.panic x) a w)(hW:aWF B Z i D)(J:c∈D)(k2:i ∉ D):
 ∀ (n:Nat) (l:Array Bool) (a:Act) (w:World),(∀ d∈D,l.getD d true=false)->
  (∀ j k,Z[j]?=some k->j≠i->l.getD j true=false->(∀ e∈k.after,Region.binds B e=true->e.on≠i)->m.apart Z k=true)->
  i∈Region.ready B Z l->YieldsIf P Z S m v a->S w->tD P B Z Q S c n (l.setIfInBounds i true) (a.put m.dst v) w->tD P B Z Q S c (n+1) l a w:=by
 intro n
 induction n with
 |zero=>
  intro l a w u _ f y q H;refine⟨fun h=>(by rw[h]at f;cases f),fun j r=>?_⟩
  by_cases e:j=i
  ·subst e;exact y.wpOp hi q ⟨fun _=>q,H⟩
  ·have:=ready_mono r e;rw[H.1]at this;cases this
 |succ n ih=>
  intro l a w u hf f y q H;refine⟨fun h=>(by rw[h]at f;cases f),fun j r=>?_⟩
  by_cases e:j=i
  ·subst e;exact y.wpOp hi q ⟨fun _=>q,H⟩
  have I:=(mem_ready.1 f).1;have h9:=hW.not I u r;obtain⟨h8,k,h0,h6⟩:=mem_ready.1 r
  have h4:∀ x∈k.after,Region.binds B x=true->x.on≠i:=fun x hx hb hq=>by
   have p:=h6 x hx hb;rw[hq]at p;rcases Qt i l.size with T|T
   ·simp[T]at I p;rw[I]at p;cases p
   ·simp[Array.getElem?_eq_none T]at p
  have h2:=wpOp_putIf h0 (hf j k h0 e h8 h4) (fun cs b=>Region.noSelect_spec hs i m cs b hi) (fun cs b=>Region.noSelect_spec hs j k cs b h0) hQ y (H.2 j (ready_mono r e))
  have k4:∀ d∈D,(l.setIfInBounds j true).getD d true=false:=fun d hd=>by
   have z:j≠d:=by rintro rfl;exact h9 hd
   rw[getD_set_ne true z];exact u d hd
  have k0:((l.setIfInBounds i true).setIfInBounds j true).getD c true=false:=by
   have q1:j≠c:=by rintro rfl;exact h9 J
   have q2:i≠c:=by rintro rfl;exact k2 J
   rw[getD_set_ne true q1,getD_set_ne true q2];exact u c J
  refine wpOp_mono (fun a' w' s=>⟨fun _=>s.2.1 k0,ih (l.setIfInBounds j true) a' w' k4 (fun a2 ok hk k3 X k1=>hf a2 ok hk k3 ?_ k1) (ready_mono f (Ne.symm e)) s.1 (s.2.1 k0) ?_⟩) h2
  ·by_cases z:j=a2
   ·subst z;exact h8
   ·rw[getD_set_ne true z]at X;exact X
  ·rw[Array.setIfInBounds_comm _ _ e];exact s.2.2
def aWM(B:Region.Mode)(Z:Array Oper)(i:Nat)(D:List Nat):Bool:=D.all fun d=>match Z[d]? with
 |some o=>o.after.any fun e=>Region.binds B e&&(e.on==i||D.contains e.on)
 |none=>false
theorem aUO{i:Nat}{D:List Nat}(h:aWM B Z i D=true):aWF B Z i D:=fun d j=>by
 have a:=List.all_eq_true.1 h d j;cases ho:Z[d]? with
 |none=>simp[ho]at a
 |some o=>
  simp only[ho]at a;obtain⟨e,k,f⟩:=Array.any_eq_true'.1 a;simp only[Bool.and_eq_true,Bool.or_eq_true,beq_iff_eq,List.contains_iff_mem]at f;exact⟨o,rfl,e,k,f.1,f.2⟩
theorem jG{i:Nat}{f:Oper}{v:Value}(D:List Nat){n:Nat}{l:Array Bool}{a:Act}{w:World}(hi:Z[i]?=some f)(q:Region.noSelect Z=true)(m:Region.free B Z l i=true)(p:(Region.ready B Z l).contains i=true)(e:(aWM B Z i D&&D.contains c&&!D.contains i&&D.all fun d=>l.getD d true==false)=true)(j:∀ x a w,Q (.panic x) (a.put f.dst v) w->Q (.panic x) a w)(r:YieldsIf P Z S f v a)(k:S w)(h:tD P B Z Q S c n (l.setIfInBounds i true) (a.put f.dst v) w):tD P B Z Q S c (n+1) l a w:=by
 simp only[Bool.and_eq_true,List.contains_iff_mem,Bool.not_eq_true',List.all_eq_true,beq_iff_eq]at e;exact aK5 hi q j (aUO e.1.1.1) e.1.1.2 (by simpa using e.1.2) n l a w e.2 (Region.free_spec hi m) (by simpa using p) r k h
theorem aK4{id:Nat}{a:Act}{w:World}(e:P.follows .mixedOrders=true)(h:tD P .any Z Q S c Z.size (Array.replicate Z.size false) a w.drew):(Code.region id Z true).wp P Q a w:=wp_region_any e (aHQ _ _ _ _ h)
theorem aHP{i n:Nat}{f:Oper}{l:Array Bool}{a:Act}{w:World}(hi:Z[i]?=some f)(j:Region.ready B Z l=[i])(q:(l.setIfInBounds i true).getD c true=true)(h:∀ K:Act->World->Prop,Hid (∀ a w,tD P B Z Q S c n (l.setIfInBounds i true) a w->K a w)->if Region.wanted f (yielded Z a.tmps)=true then Oper.wp P f a w K Q else K (a.put f.dst undef) w):tD P B Z Q S c (n+1) l a w:=
 ⟨fun h0=>(by rw[h0]at j;cases j),fun r k=>by
   rw[j,List.mem_singleton]at k;subst k;exact wpOp_step hi (fun K m=>h K (fun a w p=>m a w ⟨fun e=>(by rw[q]at e;cases e),p⟩))⟩
theorem aNV{n:Nat}{l:Array Bool}{a:Act}{w:World}(f:Region.ready B Z l=[])(h:Q .normal a w):tD P B Z Q S c n l a w:=by
 cases n with
 |zero=>exact⟨f,h⟩
 |succ n=>exact⟨fun _=>h,fun j e=>by rw[f]at e;cases e⟩
end
end
end Go.Proofs.YtikffmloeifkpaaGreatDoor
