/- Contracts. -/
import Derived.Test.YtikffmloeifkpaaGreatDoorR14
set_option maxHeartbeats 8000000
set_option maxRecDepth 100000
namespace Go.Proofs.YtikffmloeifkpaaGreatDoor
open Go.RowKit Go.Lib Go.Deep Go.ChangeMaps Go.MapKept Tryz
section
def rZ(s:ByteArray):Tr:=(aK (cE s)).2
def fP(s:ByteArray):Int × Int:=
 if 4000 < s.size then(1,0)else if(eI s).a≠0 then((eI s).a,(eI s).e)
 else if(aK (cE s)).1.a≠0 then((aK (cE s)).1.a,(aK (cE s)).1.e)else((fZ (rZ s) s.size).a,(fZ (rZ s) s.size).e)
def yE(t:Tr):List Tr:=aY 17 (aD (aA1 t))
structure Pg0(H g J O:Nat)(s:ByteArray)(t:Tr)(D M B:Value)(w:World):Prop where
 toks:aLY (cE s) g J w
 er:YtikffmloeifkpaaGreatDoor.er t=rZ s
 ge:H<=O
 prog:w.1[O]?=some (.cells (yQ (aH t) D M (vQ t) B) 111 (0,0))
 arrs:w.ownsRow H 192 1 D (yZ t) (sE 16 (aD t))
 fns:aHE H M (yE t) w
 d:w.ownsRow H 55 3 B (iD (yE t) (aA1 t) []).length (dK (iD (yE t) (aA1 t) []))
 is:bU w (mU (yE t) (aA1 t) [])
 fresh:dE H t
structure PgW(ab:Nat)(s:ByteArray)(w:World):Prop where
 ex:∃ H g J O t D M B,w.1[ab]?=some (Qf #[Qe g (cE s).length J,Qd O] 94)/\Pg0 H g J O s t D M B w
theorem Pg0.off{H g J O k:Nat}{s:ByteArray}{t:Tr}{D M B:Value}{w w':World}{c:Array Value}(h:Pg0 H g J O s t D M B w)(m:w.1[k]?=some (.cells c 37 (0,0)))(n:∀ i,i < w.1.size->i≠k->w'.1[i]?=w.1[i]?):Pg0 H g J O s t D M B w':=by
 have off:∀ {j:Nat} {c2:Array Value} {Z:TypeId},w.1[j]?=some (.cells c2 Z (0,0))->Z≠37->w'.1[j]?=w.1[j]?:=Qg;obtain⟨A,C,E⟩:=h.toks.row;refine⟨⟨Qg,h.toks.cap_,h.toks.few,h.toks.e,h.toks.last,h.toks.vals⟩,h.er,h.ge,(off h.prog Ob).t h.prog,aR h.arrs (fun j d=>?_),⟨aR h.fns.row (fun j d=>?_),fun e r=>?_⟩,aR h.d (fun j d=>?_),bU.off Oy m n h.is,h.fresh⟩
 ·obtain⟨⟨c,f⟩,_⟩:=aW h.arrs d
  grind
 ·obtain⟨⟨c,f⟩,_⟩:=aW h.fns.row d
  grind
 ·obtain⟨b,o,a,l,x,y,z,u,v,e1,p,q⟩:=h.fns.own e r;exact⟨b,o,a,l,x,y,z,u,v,e1,At.off p m Ob n,q⟩
 ·obtain⟨⟨c,f⟩,_⟩:=aW h.d d
  grind
def aM2(s:ByteArray)(w:World):Ending->World->Prop:=fun e w'=>Below w.1.size w w'/\
 (((fP s).1≠0/\e= .returned (.tuple #[.pointer none,.agg #[Qc (fP s).1,Qc (fP s).2]]))\/
  ((fP s).1=0/\∃ ab,e= .returned (.tuple #[Qd ab,.agg #[Qc 0,Qc 0]])/\PgW ab s w'))
theorem fE{w:World}{k:Nat}{u v:Value}{t:TypeId}(h:w.1[k]?=some (Qf #[u,v] t)):w.cell? ⟨k,0,none⟩=some u/\w.cell? ⟨k,1,none⟩=some v/\∀ o,w.frozen? ⟨k,o,none⟩=false:=
 ⟨Og h rfl,Og h rfl,(by grind[World.frozen?])⟩
theorem aA9{w:World}{k:Nat}{u v u' v':Value}{t:TypeId}(h:w.1[k]?=some (Qf #[u,v] t)):((w.setCell ⟨k,0,none⟩ u').setCell ⟨k,1,none⟩ v').1[k]?=some (Qf #[u',v'] t):=by
 have a:=aI (o:=0) u' h;have b:=aI (o:=1) v' a;exact b
theorem mV{w:World}{k:Nat}{u v:Value}:∀ i,i≠k->((w.setCell ⟨k,0,none⟩ u).setCell ⟨k,1,none⟩ v).1[i]?=w.1[i]?:=(by grind[Below.heap_setCell])
theorem aU6(s:ByteArray)(w:World)(ht:Tab w)(hz:s.size<=4000):
 Calls prog 19 #[.string s] w (aM2 s w):=by
 have h0:=aMI ht;have sa:(w.alloc (Qf #[Qc 0,Qc 0] 37)).1.size=w.1.size+1:=Od
 have ba:Below w.1.size w (w.alloc (Qf #[Qc 0,Qc 0] 37)):=(Below.refl _ _).alloc Ol _;have ta:Tab (w.alloc (Qf #[Qc 0,Qc 0] 37)):=ht.below ba h0;have na:(w.alloc (Qf #[Qc 0,Qc 0] 37)).1[w.1.size]?=some (Qf #[Qc 0,Qc 0] 37):=Qk w _;go_enter func19,ntmps19
 go_wp2_with fail
 generalize w.alloc (Qf #[Qc 0,Qc 0] 37)=Wa at*;refine(aWL s Wa ta hz).mono ?_;rintro e a ⟨b1,y3⟩;rw[sa]at b1;have l1:=b1.size;have n1:a.1[w.1.size]?=some (Qf #[Qc 0,Qc 0] 37):=(b1.block _ Oa).t na;have a2:Below w.1.size w a:=ba.t (b1.mono Oa);rcases y3 with⟨m,rfl⟩|⟨m,g,J,rfl,k6⟩
 ·have k4:((eI s).a !=0)=true:=by simpa using m
  have k1:(a.alloc (Qf #[Qc (eI s).a,Qc (eI s).e] 37)).1[w.1.size]?=some (Qf #[Qc 0,Qc 0] 37):=(On Oa).t n1;have k2:(a.alloc (Qf #[Qc (eI s).a,Qc (eI s).e] 37)).1[a.1.size]?=some (Qf #[Qc (eI s).a,Qc (eI s).e] 37):=Qk _ _;have V:Below w.1.size w (a.alloc (Qf #[Qc (eI s).a,Qc (eI s).e] 37)):=a2.alloc Oa _;have S:w.1.size≠a.1.size:=Oa
  have l:fP s=((eI s).a,(eI s).e):=by unfold fP;rw[Oh,if_pos m]
  go_wp2_with fail
  generalize a.alloc (Qf #[Qc (eI s).a,Qc (eI s).e] 37)=N at*;obtain⟨h,i,z0⟩:=fE k1;obtain⟨p0,F,G⟩:=fE k2;have B:Hid _:=l;have U:Hid _:=m;clear l m ba b1 a2 n1 na ta ht h0 hz k1 k2;generalize z5:(eI s).a=c3 at*;generalize z4:(eI s).e=c4 at*;clear z5 z4;go_region
  all_goals go_wp2
  all_goals obtain⟨x0,L⟩:=iC (w:=N) (u0:= Qc c3) (u1:= Qc c4) h i
  all_goals (refine bodyPost_ret (v:= .tuple #[.pointer none,.agg #[Qc c3,Qc c4]]) (by simp[results,results19,go_sem,x0,L]) rfl ⟨?_,Or.l ⟨?_,?_⟩⟩)
  all_goals first|(rw[B.o];exact U.o)|(rw[B.o])|exact(Qv (p:=⟨w.1.size,1,none⟩) (Qv (p:=⟨w.1.size,0,none⟩) V Ol _) Ol _).drew|exact Qv (p:=⟨w.1.size,1,none⟩) (Qv (p:=⟨w.1.size,0,none⟩) V.drew Ol _) Ol _
 ·have K:(cE s).length=(eI s).words.length+1:=by simp[cE]
  have M:=uD m hz
  have d:aLY (cE s) g J (a.alloc (Qf #[Qc 0,Qc 0] 37)):=by
   rcases k6.2 with⟨hv,_⟩|⟨g',c7,n,hv,hb,hh,z8,e2,c8,y⟩
   ·cases hv
   ·simp only[Value.slice.injEq,Option.some.injEq,Addr.mk.injEq]at hv;obtain⟨⟨rfl,_,_⟩,_,rfl⟩:=hv;exact⟨⟨n,(On (Oo hh)).t hh,by rw[K];exact y⟩,by rw[K];exact z8,M.few,by rw[K];omega,qS s,M.vals⟩
  have Z:=aQ4 (cE s) g J _ d;rw[K]at Z;have s2:(a.alloc (Qf #[Qc 0,Qc 0] 37)).1.size=a.1.size+1:=Od
  have k1:(a.alloc (Qf #[Qc 0,Qc 0] 37)).1[w.1.size]?=some (Qf #[Qc 0,Qc 0] 37):=(On Oa).t n1;have k2:(a.alloc (Qf #[Qc 0,Qc 0] 37)).1[a.1.size]?=some (Qf #[Qc 0,Qc 0] 37):=Qk _ _;have V:Below w.1.size w (a.alloc (Qf #[Qc 0,Qc 0] 37)):=a2.alloc Oa _;have S:w.1.size≠a.1.size:=Oa
  go_wp2_with fail
  generalize a.alloc (Qf #[Qc 0,Qc 0] 37)=N at*;refine Z.mono ?_;rintro e f ⟨H,y3⟩;have l3:=H.size;have m1:=(H.block w.1.size Oa).t k1;have Q:=(H.block a.1.size Oa).t k2;have a3:Below w.1.size w f:=V.t (H.mono Oa)
  have r:aLY (cE s) g J f:=by
   obtain⟨n,x,y⟩:=d.row;exact⟨⟨n,(H.block g (Oo x)).t x,y⟩,d.cap_,d.few,d.e,d.last,d.vals⟩
  obtain⟨h,i,z0⟩:=fE m1;obtain⟨p0,F,G⟩:=fE Q;rcases y3 with⟨A,rfl⟩|⟨A,O,t,rfl,j5,k9,T,k3,e3⟩
  ·have l:fP s=((aK (cE s)).1.a,(aK (cE s)).1.e):=by unfold fP;rw[Oh,Oh,if_pos A]
   have B:Hid _:=l;have U:Hid _:=A;have k4:((aK (cE s)).1.a !=0)=true:=by simpa using A
   have e1:=(mV (w:=f) (k:=a.1.size) (u:= Qc (aK (cE s)).1.a) (v:= Qc (aK (cE s)).1.e) w.1.size S).t m1;have o:=aA9 (u':= Qc (aK (cE s)).1.a) (v':= Qc (aK (cE s)).1.e) Q;have P:Below w.1.size w ((f.setCell ⟨a.1.size,0,none⟩ (Qc (aK (cE s)).1.a)).setCell ⟨a.1.size,1,none⟩ (Qc (aK (cE s)).1.e)):=(a3.setCell (p:=⟨a.1.size,0,none⟩) (by show w.1.size<=a.1.size;omega) _).setCell (p:=⟨a.1.size,1,none⟩) (by show w.1.size<=a.1.size;omega) _;clear l A ba b1 a2 n1 na ta ht h0 hz k1 k2 m k6 K M d Z r H V m1 Q;generalize z5:(aK (cE s)).1.a=c3 at*;generalize z4:(aK (cE s)).1.e=c4 at*;clear z5 z4;go_wp2_with fail
   generalize (f.setCell ⟨a.1.size,0,none⟩ (Qc c3)).setCell ⟨a.1.size,1,none⟩ (Qc c4)=W4 at*;clear h i z0 p0 F G a3;obtain⟨h,i,z0⟩:=fE e1;obtain⟨p0,F,G⟩:=fE o;clear e1 o;go_region
   all_goals go_wp2
   all_goals obtain⟨x0,L⟩:=iC (w:=W4) (u0:= Qc c3) (u1:= Qc c4) h i
   all_goals (refine bodyPost_ret (v:= .tuple #[.pointer none,.agg #[Qc c3,Qc c4]]) (by simp[results,results19,go_sem,x0,L]) rfl ⟨?_,Or.l ⟨?_,?_⟩⟩)
   all_goals first|(rw[B.o];exact U.o)|(rw[B.o])|exact(Qv (p:=⟨w.1.size,1,none⟩) (Qv (p:=⟨w.1.size,0,none⟩) P Ol _) Ol _).drew|exact Qv (p:=⟨w.1.size,1,none⟩) (Qv (p:=⟨w.1.size,0,none⟩) P.drew Ol _) Ol _
  ·have R:Ws 8 t:=(Ws.er t 8).1 (by rw[T];exact(rI M (qS s) d.e A).1);have g6:=aZP (aME m) (by have:=(rI M (qS s) d.e A).2;exact this);have j4:ps t=ps (aK (cE s)).2:=by rw[<-aZS t,T]
   rw[<-j4]at g6;obtain⟨z7,y1⟩:=g6;have z3:=d.few;have z8:=aVO t;have e1:=(mV (w:=f) (k:=a.1.size) (u:= Qc 0) (v:= Qc 0) w.1.size S).t m1;have o:=aA9 (u':= Qc 0) (v':= Qc 0) Q;have P:Below w.1.size w ((f.setCell ⟨a.1.size,0,none⟩ (Qc 0)).setCell ⟨a.1.size,1,none⟩ (Qc 0)):=(a3.setCell (p:=⟨a.1.size,0,none⟩) (by show w.1.size<=a.1.size;omega) _).setCell (p:=⟨a.1.size,1,none⟩) (by show w.1.size<=a.1.size;omega) _;have z6:fN a.1.size t:=k3.fresh.notIn Oa;have y0:=(k3.set z6 0 (Qc 0)).set z6 1 (Qc 0);have k0:((f.setCell ⟨a.1.size,0,none⟩ (Qc 0)).setCell ⟨a.1.size,1,none⟩ (Qc 0)).1[O]?=some (.cells (yQ (aH t) (.slice none 0 0) (.slice none 0 0) 0 (.slice none 0 0)) 111 (0,0)):=(mV O Oa).t k9
   have D:aLY (cE s) g J ((f.setCell ⟨a.1.size,0,none⟩ (Qc 0)).setCell ⟨a.1.size,1,none⟩ (Qc 0)):=by
    obtain⟨n,x,y⟩:=r.row;exact⟨⟨n,(mV g (bR x Q Ob)).t x,y⟩,r.cap_,r.few,r.e,r.last,r.vals⟩
   have l4:((f.setCell ⟨a.1.size,0,none⟩ (Qc 0)).setCell ⟨a.1.size,1,none⟩ (Qc 0)).1.size=f.1.size:=by simp[World.setCell]
   have h9:=aJO R k3.fresh z7 Oa j5 s.size _ (by rw[l4];exact H.size) y0.is k0;go_wp2_with fail
   generalize (f.setCell ⟨a.1.size,0,none⟩ (Qc 0)).setCell ⟨a.1.size,1,none⟩ (Qc 0)=W4 at*;refine h9.mono ?_;rintro e b ⟨rfl,l5,b6,b8,b7,X,y4⟩;have a4:Below w.1.size w b:=P.t ⟨b6,b8,b7,l5,fun k hk=>X k Oa⟩;have f1:=(X w.1.size Oa).t e1;have C:=(X a.1.size Oa).t o;have j7:∀ k,k < N.1.size->b.1[k]?=W4.1[k]?:=X;have h6:=k3.fresh;clear h i z0 p0 F G m1 Q k9 k0 y0 k3 X;obtain⟨h,i,z0⟩:=fE f1;obtain⟨p0,F,G⟩:=fE C;have j3:fZ (rZ s) s.size=fZ t s.size:=by rw[<-aMX t];show fZ (rZ s) _=fZ (er t) _;rw[T];rfl
   have l:fP s=((fZ t s.size).a,(fZ t s.size).e):=by unfold fP;rw[Oh,Oh,Oh,j3]
   have e1:=(mV (w:=b) (k:=a.1.size) (u:= Qc (fZ t s.size).a) (v:= Qc (fZ t s.size).e) w.1.size S).t f1;have o:=aA9 (u':= Qc (fZ t s.size).a) (v':= Qc (fZ t s.size).e) C;have W:Below w.1.size w ((b.setCell ⟨a.1.size,0,none⟩ (Qc (fZ t s.size).a)).setCell ⟨a.1.size,1,none⟩ (Qc (fZ t s.size).e)):=(a4.setCell (p:=⟨a.1.size,0,none⟩) (by show w.1.size<=a.1.size;omega) _).setCell (p:=⟨a.1.size,1,none⟩) (by show w.1.size<=a.1.size;omega) _
   by_cases z:(fZ t s.size).a=0
   ·have y8:=aN0 R z;obtain⟨w8,a7,d1,e4⟩:=aCW R;obtain⟨c6,b9,a9,b3,g9,j0,z9,d5⟩:=y4 z;have d2:(fP s).1=0:=by rw[l];exact z
    rw[z]at o W e1;have b4:∀ E,E < b.1.size->E≠a.1.size->((b.setCell ⟨a.1.size,0,none⟩ (Qc 0)).setCell ⟨a.1.size,1,none⟩ (Qc (fZ t s.size).e)).1[E]?=b.1[E]?:=fun E _ hi=>mV E hi
    have g3:=aR (w':=(b.setCell ⟨a.1.size,0,none⟩ (Qc 0)).setCell ⟨a.1.size,1,none⟩ (Qc (fZ t s.size).e)) j0 (fun a6 hj=>by
     obtain⟨⟨c,j9⟩,_⟩:=aW j0 hj;exact mV a6 (bR j9 C Ob))
    have g0:=aR (w':=(b.setCell ⟨a.1.size,0,none⟩ (Qc 0)).setCell ⟨a.1.size,1,none⟩ (Qc (fZ t s.size).e)) z9 (fun a6 hj=>by
     obtain⟨⟨c,j9⟩,_⟩:=aW z9 hj;exact mV a6 (bR j9 C Ob))
    have d4:=bU.off Oy C b4 d5;have g8:=(mV (w:=b) (k:=a.1.size) (u:= Qc 0) (v:= Qc (fZ t s.size).e) O Oa).t g9;obtain rfl:=aIG j0;obtain rfl:=aIG z9;rw[aOP R,List.length_map]at g0;have l6:((b.setCell ⟨a.1.size,0,none⟩ (Qc 0)).setCell ⟨a.1.size,1,none⟩ (Qc (fZ t s.size).e)).1.size=b.1.size:=by simp[World.setCell]
    have d0:(sE 16 (aD t)).length=yZ t:=by rw[aFD,List.length_map];rfl
    rw[d0]at g3
    have I:aLY (cE s) g J ((b.setCell ⟨a.1.size,0,none⟩ (Qc 0)).setCell ⟨a.1.size,1,none⟩ (Qc (fZ t s.size).e)):=by
     obtain⟨n,x,y⟩:=D.row;obtain⟨b5,j8,j1⟩:=d.row;have j6:=(Oo j8);have z2:=(j7 g j6).t x;exact⟨⟨n,(mV g (bR z2 C Ob)).t z2,y⟩,D.cap_,D.few,D.e,D.last,D.vals⟩
    have j6:g < N.1.size:=by
     obtain⟨b5,j8,j1⟩:=d.row;exact(Oo j8)
    have y9:=aM5 w8 (d1 _ h6) (by rw[a7];exact z7) (y8.cv w8) j5 _ (by rw[l6];omega) d4 g8 g0 (by rw[a7];omega);rw[z];have d9:Hid _:=d2;have d8:Hid (er t=rZ s):=T;have g5:Hid (dE N.1.size t):=h6;have g4:Hid _:=K;clear l z j3 y4 f1 C a4 j7 h9 D P R j4 z7 y1 z3 z8 z6 r Z d M k6 m A T h6 d2 g9 j0 z9 d5 b4 y8 w8 a7 d1 d4 g0 g8 d0 K;generalize (fZ t s.size).e=c4 at*;go_wp2_with fail
    generalize (b.setCell ⟨a.1.size,0,none⟩ (Qc 0)).setCell ⟨a.1.size,1,none⟩ (Qc c4)=W6 at*;refine y9.mono ?_;rintro e j ⟨rfl,c5,j2,d3,q⟩;have a5:Below w.1.size w j:=W.t ⟨q.os,q.tape,q.output,q.size,fun k hk=>q.below k Oa⟩;have Y:=(q.below w.1.size Oa).t e1;obtain⟨a8,g7,d6⟩:=j2.prog;have d7:=nE g3 q Oy (fun t p hp=>(Pt.body t p hp).e)
    have h8:aLY (cE s) g J j:=by
     obtain⟨n,x,y⟩:=I.row;exact⟨⟨n,(q.below g j6).t x,y⟩,I.cap_,I.few,I.e,I.last,I.vals⟩
    have P7:Pg0 N.1.size g J O s t a9 b3 a8 j:=⟨h8,d8.o,j5,g7,d7,j2.fns,d6,d3,g5.o⟩;have l7:=a5.size;have c9:w.1.size < j.1.size:=(Oo Y);clear h i z0 p0 F G;obtain⟨h,i,z0⟩:=fE Y
    have b2:Hid (Below w.1.size w (((j.setCell ⟨w.1.size,0,none⟩ (Qc 0)).setCell ⟨w.1.size,1,none⟩ (Qc 0)).alloc (Qf #[Qe g ((eI s).words.length+1) J,Qd O] 94))/\PgW j.1.size s (((j.setCell ⟨w.1.size,0,none⟩ (Qc 0)).setCell ⟨w.1.size,1,none⟩ (Qc 0)).alloc (Qf #[Qe g ((eI s).words.length+1) J,Qd O] 94))):=by
     have lz:((j.setCell ⟨w.1.size,0,none⟩ (Qc 0)).setCell ⟨w.1.size,1,none⟩ (Qc 0)).1.size=j.1.size:=by simp[World.setCell]
     refine⟨((a5.setCell Ol _).setCell Ol _).alloc (by rw[lz];exact l7) _,_,g,J,O,t,a9,b3,a8,?_,P7.off Y (fun E hi S=>?_)⟩
     ·rw[g4.o,<-lz];exact Qk _ _
     ·exact(On (by rw[lz];exact hi)).t (mV E S)
    have g2:(((j.setCell ⟨w.1.size,0,none⟩ (Qc 0)).setCell ⟨w.1.size,1,none⟩ (Qc 0)).alloc (Qf #[Qe g ((eI s).words.length+1) J,Qd O] 94)).1[w.1.size]?=some (Qf #[Qc 0,Qc 0] 37):=(On (by simp[World.setCell];omega)).t (aA9 Y);obtain⟨x0,L,_⟩:=fE g2;clear j2 d3 q g7 d6 d7 h8 P7 e1 o W a5 Y y9 g3 I;go_wp2;refine bodyPost_ret (v:= .tuple #[Qd j.1.size,.agg #[Qc 0,Qc 0]]) (by simp[results,results19,go_sem,x0,L]) rfl ⟨b2.o.1,.r ⟨d9.o,_,rfl,b2.o.2⟩⟩
   ·have k4:((fZ t s.size).a !=0)=true:=by simpa using z
    have B:Hid _:=l;have U:Hid _:=z;clear l z j3 y4 f1 C a4 j7 h9 D P R j4 z7 y1 z3 z8 z6 r Z d M k6 m A T h6;generalize z5:(fZ t s.size).a=c3 at*;generalize z4:(fZ t s.size).e=c4 at*;clear z5 z4;go_wp2_with fail
    generalize (b.setCell ⟨a.1.size,0,none⟩ (Qc c3)).setCell ⟨a.1.size,1,none⟩ (Qc c4)=W6 at*;clear h i z0 p0 F G;obtain⟨h,i,z0⟩:=fE e1;obtain⟨p0,F,G⟩:=fE o;clear e1 o;go_region
    all_goals go_wp2
    all_goals obtain⟨x0,L⟩:=iC (w:=W6) (u0:= Qc c3) (u1:= Qc c4) h i
    all_goals (refine bodyPost_ret (v:= .tuple #[.pointer none,.agg #[Qc c3,Qc c4]]) (by simp[results,results19,go_sem,x0,L]) rfl ⟨?_,Or.l ⟨?_,?_⟩⟩)
    all_goals first|(rw[B.o];exact U.o)|(rw[B.o])|exact(Qv (p:=⟨w.1.size,1,none⟩) (Qv (p:=⟨w.1.size,0,none⟩) W Ol _) Ol _).drew|exact Qv (p:=⟨w.1.size,1,none⟩) (Qv (p:=⟨w.1.size,0,none⟩) W.drew Ol _) Ol _
theorem aQ3(s:ByteArray)(w:World)(b:4000 < s.size)(n:s.size<=maxLen):Calls prog 19 #[.string s] w (aM2 s w):=by
 have r:(w.alloc (Qf #[Qc 0,Qc 0] 37)).1.size=w.1.size+1:=Od
 have d:Below w.1.size w (w.alloc (Qf #[Qc 0,Qc 0] 37)):=(Below.refl _ _).alloc Ol _;have k:(w.alloc (Qf #[Qc 0,Qc 0] 37)).1[w.1.size]?=some (Qf #[Qc 0,Qc 0] 37):=Qk w _;have h0:fP s=(1,0):=by unfold fP;rw[if_pos b]
 go_enter func19,ntmps19
 go_wp2_with fail
 generalize w.alloc (Qf #[Qc 0,Qc 0] 37)=m at*;refine(aUC s m b n).mono ?_;rintro e a ⟨rfl,b1⟩;rw[r]at b1;have x:=b1.size;have j:a.1[w.1.size]?=some (Qf #[Qc 0,Qc 0] 37):=(b1.block _ Oa).t k;have f:Below w.1.size w a:=d.t (b1.mono Oa);have h:(a.alloc (Qf #[Qc 1,Qc 0] 37)).1[w.1.size]?=some (Qf #[Qc 0,Qc 0] 37):=(On Oa).t j;have i:(a.alloc (Qf #[Qc 1,Qc 0] 37)).1[a.1.size]?=some (Qf #[Qc 1,Qc 0] 37):=Qk _ _;have g:Below w.1.size w (a.alloc (Qf #[Qc 1,Qc 0] 37)):=f.alloc Oa _;have u:w.1.size≠a.1.size:=Oa
 go_wp2_with fail
 generalize a.alloc (Qf #[Qc 1,Qc 0] 37)=l at*;obtain⟨o,q,z0⟩:=fE h;obtain⟨p0,y,z⟩:=fE i;have c:Hid _:=h0;clear h0 d b1 f j k b h i;go_region
 all_goals go_wp2
 all_goals obtain⟨x0,t⟩:=iC (w:=l) (u0:= Qc 1) (u1:= Qc 0) o q
 all_goals (refine bodyPost_ret (v:= .tuple #[.pointer none,.agg #[Qc 1,Qc 0]]) (by simp[results,results19,go_sem,x0,t]) rfl ⟨?_,Or.l ⟨?_,?_⟩⟩)
 all_goals first|(rw[c.o];decide)|(rw[c.o])|exact(Qv (p:=⟨w.1.size,1,none⟩) (Qv (p:=⟨w.1.size,0,none⟩) g Ol _) Ol _).drew|exact Qv (p:=⟨w.1.size,1,none⟩) (Qv (p:=⟨w.1.size,0,none⟩) g.drew Ol _) Ol _
theorem aJP(s:ByteArray)(w:World)(b:Tab w)(a:s.size<=maxLen):Calls prog 19 #[.string s] w (aM2 s w):=by
 rcases Qt 4000 s.size with h|h
 ·exact aQ3 s w h a
 ·exact aU6 s w b h
theorem Pg0.b{H g J O:Nat}{s:ByteArray}{t:Tr}{D M B:Value}{w w':World}(h:Pg0 H g J O s t D M B w)(m:∀ i,i < w.1.size->w'.1[i]?=w.1[i]?):Pg0 H g J O s t D M B w':=by
 have off:∀ {j:Nat} {c2:Array Value} {Z:TypeId},w.1[j]?=some (.cells c2 Z (0,0))->w'.1[j]?=w.1[j]?:=Qg;obtain⟨u,v,A⟩:=h.toks.row;refine⟨⟨Qg,h.toks.cap_,h.toks.few,h.toks.e,h.toks.last,h.toks.vals⟩,h.er,h.ge,(off h.prog).t h.prog,aR h.arrs (fun j d=>?_),⟨aR h.fns.row (fun j d=>?_),fun e p=>?_⟩,aR h.d (fun j d=>?_),bU.b m h.is,h.fresh⟩
 ·obtain⟨⟨c,k⟩,_⟩:=aW h.arrs d
  grind
 ·obtain⟨⟨c,k⟩,_⟩:=aW h.fns.row d
  grind
 ·obtain⟨b,o,a,l,x,y,z,q,r,e1,f,n⟩:=h.fns.own e p;exact⟨b,o,a,l,x,y,z,q,r,e1,At.same f (m _ (At.lt f)),n⟩
 ·obtain⟨⟨c,k⟩,_⟩:=aW h.d d
  grind
theorem pE{w:World}{k:Nat}{a b c d:Value}{t:TypeId}(h:w.1[k]?=some (Qf #[a,b,c,d] t)):w.cell? ⟨k,0,none⟩=some a/\w.cell? ⟨k,1,none⟩=some b/\w.cell? ⟨k,2,none⟩=some c/\w.cell? ⟨k,3,none⟩=some d/\∀ o,w.frozen? ⟨k,o,none⟩=false:=
 ⟨Og h rfl,Og h rfl,Og h rfl,Og h rfl,(by grind[World.frozen?])⟩
theorem PgW.b{a:Nat}{s:ByteArray}{w w':World}(h:PgW a s w)(c:∀ i,i < w.1.size->w'.1[i]?=w.1[i]?):PgW a s w':=by
 obtain⟨H,g,J,O,t,D,M,B,d,b⟩:=h.ex;exact⟨H,g,J,O,t,D,M,B,Qg,b.b c⟩
end
section
theorem aW4(r:Int)(w:World):Calls prog 229 #[Qc r] w fun e a=>e= .returned (.bool (eN r))/\w=a:=by
 go_enter func229,ntmps229
 go_wp2
 all_goals (go_ret;exact⟨gG (by simp[eN];try omega),rfl⟩)
theorem aSS(r:Int)(w:World):Calls prog 228 #[Qc r] w fun e a=>e= .returned (.bool (eQ r))/\w=a:=by
 go_enter func228,ntmps228
 go_wp2
 all_goals (go_ret;exact⟨aKO (by simp[eQ];try omega),rfl⟩)
def inL(s:ByteArray):List UInt8->List UInt8->Bool
 |[],acc=>decide ((⟨acc.toArray⟩:ByteArray)=s)
 |c::r,acc=>if c=32 then(if(⟨acc.toArray⟩:ByteArray)=s then true else inL s r [])else inL s r (acc++[c])
def inQ(s all:ByteArray):Bool:=inL s all.data.toList []
def aEH(s all:ByteArray)(a i:Nat):Bool:=inL s (all.data.toList.drop i) ((all.data.toList.take i).drop a)
theorem aV9(all:ByteArray)(a i:Nat):(⟨((all.data.toList.take i).drop a).toArray⟩:ByteArray)=all.extract a i:=by
 apply ByteArray.ext;rw[ByteArray.data_extract];apply Array.ext';simp[List.drop_take]
theorem aVY(s all:ByteArray)(w:World)(U:all.size<=1000):Calls prog 165 #[.string s,.string all] w fun e N=>e= .returned (.bool (inQ s all))/\w=N:=by
 have V:(all.size:Int)<=1000:=Oa
 obtain⟨R,d⟩:∃ R,R=inQ s all:=⟨_,rfl⟩;rw[<-d];have T:all.data.toList.length=all.size:=rfl;have B:∃ a i:Nat,Qc 0= Qc a/\Qc 0= Qc i/\a<=i/\i<=all.size+1/\all.size+2<=i+(all.size+2)/\(i<=all.size->R=aEH s all a i)/\(i=all.size+1->R=false):=⟨0,0,rfl,rfl,Ql _,Qn _,Oa,fun _=>d,fun h=>Oa⟩;clear d;go_enter func165,ntmps165
 go_wp2_with fail
 go_loopg [5,6] (all.size+2) (fun m x M wr=>∃ a i:Nat,x= Qc a/\M= Qc i/\a<=i/\i<=all.size+1/\all.size+2<=i+m/\(i<=all.size->R=aEH s all a i)/\(i=all.size+1->R=false)/\w=wr)
 case atStart=>
  obtain⟨a,i,q,E,F,G,H,I,J⟩:=B;exact⟨a,i,q,E,F,G,H,I,J,rfl⟩
 case round=>
  clear B;obtain⟨a,i,rfl,rfl,u,hi,r,d,o,rfl⟩:=hrel
  by_cases j:i<=all.size
  ·have y0:(i:Int)<=(all.size:Int):=Oa
   have Q:(a:Int)<=(i:Int):=Oa
   have P:(0:Int)<=(a:Int):=Oa
   obtain⟨m,rfl⟩:=Oj gk;have l:=aV9 all a i;have d:=d j;have p:Hid (all.size+2<=i+(m+1)):=r;have k:Hid (i<=all.size/\a<=i):=⟨j,u⟩
   have f:∀ x:ByteArray,(x.toList==s.toList)=decide (x=s):=fun x=>by
    rw[Lib.toList_data,Lib.toList_data,Bool.eq_iff_iff,beq_iff_eq,decide_eq_true_eq];exact⟨fun h=>ByteArray.ext (Array.ext' h),fun h=>by rw[h]⟩
   by_cases t:i=all.size
   ·have L:((i:Int)==(all.size:Int))=true:=by rw[beq_iff_eq];omega
    have b:R=decide (all.extract a i=s):=by
     rw[d];unfold aEH;rw[List.drop_eq_nil_of_le Oa];show decide _=_;rw[l]
    have D:Hid (i=all.size):=t;clear t d o r j u hi l
    by_cases c:all.extract a i=s
    ·have z:((all.extract a i).toList==s.toList)=true:=by rw[f,decide_eq_true c]
     have k0:Hid (R=true):=by rw[Hid,b,decide_eq_true c]
     clear b c f;go_wp2;go_ret;exact⟨gG k0.o.symm,rfl⟩
    ·have z:((all.extract a i).toList==s.toList)=false:=by rw[f,decide_eq_false c]
     have k0:Hid (R=false):=by rw[Hid,b,decide_eq_false c]
     clear b c f;go_wp2;go_roundg m
     case rel=>exact⟨i+1,i+1,Od,Od,Ql _,Oi k.o,Oi p.o,fun h=>Oi D.o,fun _=>k0.o,rfl⟩
     case measure=>omega
   ·have L:((i:Int)==(all.size:Int))=false:=by rw[Bool.eq_false_iff,Ne,beq_iff_eq];omega
    have n:i < all.size:=Oa
    have S:0<=(i:Int)/\(i:Int) < (all.size:Int):=Oa
    have C:all.data.toList.drop i=all[i]::all.data.toList.drop (i+1):=List.drop_eq_getElem_cons Oa
    have b:R=if all[i]=32 then(if all.extract a i=s then true else aEH s all (i+1) (i+1))else aEH s all a (i+1):=by
     rw[d];unfold aEH;rw[C,inL,l];rw[List.take_add_one,List.getElem?_eq_getElem Oa]
     have h0:((all.data.toList.take i++(some all.data.toList[i]).toList).drop (i+1))=[]:=by
      apply List.drop_eq_nil_of_le;simp;omega
     have q:((all.data.toList.take i++(some all.data.toList[i]).toList).drop a)=(all.data.toList.take i).drop a++[all[i]]:=by
      rw[List.drop_append_of_le_length (by simp;omega)];rfl
     rw[h0,q]
    have y:all[i]=32->R=(if all.extract a i=s then true else aEH s all (i+1) (i+1)):=fun h=>by rw[b];simp only[h,↓reduceIte]
    have v: ¬all[i]=32->R=aEH s all a (i+1):=fun h=>by rw[b];simp only[h,↓reduceIte]
    have A:Hid (i < all.size):=n;clear b;clear C l d o r j u hi t
    by_cases g:all[i]=32
    ·have K:((all[i].toNat:Int)==32)=true:=by rw[g];rfl
     have b:=y g;clear g y v
     by_cases c:all.extract a i=s
     ·have z:((all.extract a i).toList==s.toList)=true:=by rw[f,decide_eq_true c]
      have k0:Hid (R=true):=by rw[Hid,b,if_pos c]
      clear b c f n;go_wp2;go_ret;exact⟨gG k0.o.symm,rfl⟩
     ·have z:((all.extract a i).toList==s.toList)=false:=by rw[f,decide_eq_false c]
      have k0:Hid (R=aEH s all (i+1) (i+1)):=by rw[Hid,b,if_neg c]
      clear b c f n;go_wp2;go_roundg m
      case rel=>exact⟨i+1,i+1,Od,Od,Ql _,Oi k.o,Oi p.o,fun _=>k0.o,fun h=>Oi A.o,rfl⟩
      case measure=>omega
    ·have K:((all[i].toNat:Int)==32)=false:=by
      rw[Bool.eq_false_iff,Ne,beq_iff_eq];intro h;exact g (UInt8.toNat_inj.mp (by show _=32;omega))
     have k0:Hid (R=aEH s all a (i+1)):=v g;clear y v g f n;go_wp2;go_roundg m
     case rel=>exact⟨a,i+1,rfl,Od,Oi k.o,Oi k.o,Oi p.o,fun _=>k0.o,fun h=>Oi A.o,rfl⟩
     case measure=>omega
  ·have y0: ¬(i:Int)<=(all.size:Int):=Oa
   have O:Hid (R=false):=o Oa;clear d o j;go_wp2;go_ret;exact⟨gG O.o.symm,rfl⟩
variable {T:List aU}
def WSg(T:List aU):Tr->Nat->Nat->Prop
 | .nil,i,j=>i<=j
 | .node _ _ _ e r,i,j=>∃ k m,i<=k/\oU e=(aE T k).e/\(∀ q∈ps (oK e),q=(aE T k).e)/\Sg T (k+1) m (ps (tP e))/\WSg T r m j
def ISg(T:List aU)(e:Tr)(i j:Nat):Prop:=∃ b o a l r,e= .node b o a l r/\((a.a=16/\∃ k1 k2,i<=k1/\k1 < k2/\k2 < j/\a.b=(aE T k1).e/\a.e=(aE T k2).e)
 \/(a.a=17/\∃ x y z p q k1 k2 k3,r= .node x y z p q/\i<=k1/\a.b=(aE T k1).e/\Sg T (k1+1) k2 (ps l)/\WSg T (aD p) k2 k3/\Sg T k3 j (ps q)))
def aB6(T:List aU):Tr->Nat->Nat->Prop
 | .nil,i,j=>i<=j
 | .node _ _ _ e r,i,j=>∃ k,ISg T e i k/\aB6 T r k j
theorem WSg.mono:∀ {L:Tr} {i V j:Nat},WSg T L i j->V<=i->WSg T L V j
 | .nil,_,_,_,h,h1=>Qm h1 h
 | .node _ _ _ _ _,_,_,_,⟨k,m,h1,h2⟩,h3=>⟨k,m,Qm h3 h1,h2⟩
theorem WSg.le:∀ {L:Tr} {i j:Nat},WSg T L i j->i<=j
 | .nil,_,_,h=>h
 | .node _ _ _ _ _,_,_,⟨k,m,h1,_,_,h4,h5⟩=>by
  have:=WSg.le h5;have:=h4.1;omega
theorem aWD{r:Rd}(b:(jZ T r).1.a=0):∀ q∈ps (jZ T r).2,q=(aE T r.b).e:=by
 unfold jZ at b ⊢;dsimp only at b ⊢
 by_cases d:(bX T r [28,2,1]).d=28
 ·rw[if_pos d];intro q a;cases a
 rw[if_neg d]at b ⊢
 by_cases c:(bX T r [28,2,1]).d=2
 ·rw[if_pos c];intro q a;cases a
 rw[if_neg c]at b ⊢;obtain⟨_,_,_,e⟩:=bO b;intro q a;have a:q∈[(bX T r [28,2,1]).e]:=a
 grind
theorem aRY(c:fX T)(a:eD T){r:Rd}(d:r.b < T.length)(h:(iS T r).1.a=0):r.a=0/\oU (iS T r).2=(aE T r.b).e/\(∀ q∈ps (oK (iS T r).2),q=(aE T r.b).e)/\Sg T (r.b+1) (iS T r).1.b (ps (tP (iS T r).2)):=by
 have a1:=tU a r d;have e:=aN a a1.lt (show aM gX 0=false by decide);obtain⟨f,j,g⟩:=aGP c a _ e.lt h;obtain⟨b,k,l,m⟩:=bO f;obtain⟨i,n,o⟩:=aGP c a r d b;have:=a1.ge;exact⟨i,rfl,aWD b,g.mono Oa Ol⟩
theorem aG9(g:fX T)(b:eD T):∀ n r,r.b < T.length->(aZ T (iS T) n r).1.a=0->r.a=0/\WSg T (aZ T (iS T) n r).2 r.b (aZ T (iS T) n r).1.b:=by
 intro n
 induction n with
 |zero=>intro r _ a;exact⟨a,Ql _⟩
 |succ n ih=>
  intro r h a;unfold aZ at a ⊢
  by_cases c:aF T r [18]=true
  ·rw[if_pos c]at a ⊢;have a1:=fF b h (show aM [18] 0=false by decide);have d:=oC b _ a1.lt;obtain⟨e,f⟩:=ih _ d.lt a;obtain⟨i,j,k,l⟩:=aRY g b a1.lt e;exact⟨tN i,_,_,tO r [18],j,k,l,f⟩
  ·rw[if_neg c]at a ⊢;exact⟨a,Ql _⟩
theorem aAC(l:Tr):aD (gW l)=l:=by cases l<;>rfl
theorem aNU(d:fX T)(c:eD T)(n:Nat){r:Rd}(j:r.b < T.length)(b:(dN T n r).1.a=0):r.a=0/\WSg T (aD (dN T n r).2) r.b (dN T n r).1.b:=by
 unfold dN at b ⊢
 by_cases f:aF T r [5]=true
 ·rw[if_pos f]at b ⊢;have a:=fF c j (show aM [5] 0=false by decide);have g:=oC c _ a.lt;obtain⟨h,i⟩:=aG9 d c n _ g.lt b;obtain⟨k,l,m,o⟩:=aRY d c a.lt h;refine⟨tN k,?_⟩;have e:(dV T (iS T) n (r.b0 T [5])).2=gW (cons (iS T (r.b0 T [5])).2 (aZ T (iS T) n (iS T (r.b0 T [5])).1).2):=rfl;rw[e,aAC];exact⟨_,_,tO r [5],l,m,o,i⟩
 ·rw[if_neg f]at b ⊢;exact⟨b,Ql _⟩
theorem aJ2(d:fX T)(a:eD T){B:Pr}(h:Ok T 4 B)(n:Nat){r:Rd}(i:r.b < T.length)(b:(cH T B n r).1.a=0):ISg T (cH T B n r).2 r.b (cH T B n r).1.b:=by
 have a1:=aN a i (show aM [1] 0=false by decide);obtain⟨k,e,l⟩:=cZ a a1.lt (show aM [12] 0=false by decide);rw[qP]at b ⊢;dsimp only at b ⊢;have m:=sS a n _ e;have c:=oE a k l m (show aM [13] 0=false by decide);have s:=sR a n _ c.lt;obtain⟨b1,v,f⟩:=h _ s.lt b;obtain⟨t,u⟩:=aNU d a n c.lt b1;obtain⟨q,C⟩:=pH t;obtain⟨o,A,p⟩:=aFI d a n _ e q;obtain⟨j,z⟩:=iG o;obtain⟨w,x,y,g⟩:=bO j;exact⟨_,_,_,_,_,rfl,.r ⟨rfl,_,_,_,_,_,r.b,_,_,rfl,Oa,by rw[g],p.mono Oa Ol,u.mono Oa,f⟩⟩
theorem aU2{r:Rd}(a:(fM T r).1.a=0):ISg T (fM T r).2 r.b (fM T r).1.b:=by
 unfold fM at a ⊢;dsimp only at a ⊢;obtain⟨d,i,j,k⟩:=bO a;obtain⟨e,l,m,f⟩:=bO d;obtain⟨g,h,b,c⟩:=bO e;exact⟨_,_,_,_,_,rfl,.l ⟨rfl,r.b,r.b+1,Oa,Oa,Oa,by rw[c],by rw[f,b]⟩⟩
theorem aB6.mono:∀ {L:Tr} {i V j:Nat},aB6 T L i j->V<=i->aB6 T L V j
 | .nil,_,_,_,h,h1=>Qm h1 h
 | .node _ _ _ _ _,_,_,_,⟨k,⟨b,o,a,l,r,h1,h2⟩,h3⟩,h4=>⟨k,⟨b,o,a,l,r,h1,h2.imp (fun⟨e,d,f,e1,c⟩=>⟨e,d,f,Oa,c⟩) Qg⟩,h3⟩
theorem aII(g:fX T)(c:eD T){B:Pr}(e:bV T B)(f:Ok T 4 B)(m:Nat):∀ n r,r.b < T.length->(aL T B m n r).1.a=0->aB6 T (aL T B m n r).2 r.b (aL T B m n r).1.b:=by
 intro n
 induction n with
 |zero=>intro r _ _;exact Ql _
 |succ n ih=>
  intro r k a;have h0:=sO g c e f m n;unfold aL at a ⊢;dsimp only at a ⊢
  by_cases h:aF T r [0]=true
  ·rw[if_pos h];exact Ql _
  rw[if_neg h]at a ⊢;have a1:=aN c k (show aM [3,4] 0=false by decide);have d:=a1.ge
  by_cases i:(bX T r [3,4]).d=3
  ·rw[if_pos i]at a ⊢;have b:=pA c _ a1.lt;have:=aB6.mono (T:=T) (L:=cons (fM T (r.take T [3,4])).2 (aL T B m n (fM T (r.take T [3,4])).1).2) ⟨_,aU2 (h0 _ b.lt a).1,ih _ b.lt a⟩ d;exact this
  rw[if_neg i]at a ⊢
  by_cases j:(bX T r [3,4]).d=4
  ·rw[if_pos j]at a ⊢;have b:=lE c e m _ a1.lt;have:=aB6.mono (T:=T) (L:=cons (cH T B m (r.take T [3,4])).2 (aL T B m n (cH T B m (r.take T [3,4])).1).2) ⟨_,aJ2 g c f m a1.lt (h0 _ b.lt a).1,ih _ b.lt a⟩ d;exact this
  ·rw[if_neg j]at a ⊢;exact(ih _ a1.lt a).mono d
theorem aKU(b:fX T)(a:eD T)(d:0 < T.length)(c:(aK T).1.a=0):aB6 T (aD (aK T).2) 0 (aK T).1.b:=by
 show aB6 T (aD (gW _)) 0 _;rw[aAC];exact aII b a (gU a (eC T) 6) (aD3 b a (eC T) 6) (eC T) (eC T) rd0 d c
end
section
theorem aVR:∀ {L:Tr},Ws 18 L->∀ e∈aY 17 L,∃ b o a l r,e= .node b o a l r/\Ws 6 l:=by
 intro L
 induction L with
 |nil=>intro _ e c;cases c
 |node b o a x r _ ih=>
  intro h e c;obtain⟨_,h0,f⟩:=bY Ot h
  by_cases d:cB x=17
  ·rw[show aY 17 (.node b o a x r)=x::aY 17 r from if_pos d]at c;rcases List.mem_cons.1 c with rfl|c
   ·have h0:Ws 7 e:=h0;obtain⟨b,o,a,l,r,rfl,_⟩:=jU h0;obtain⟨g,_⟩:=oD h0 d;exact⟨_,_,_,_,_,rfl,g⟩
   ·exact ih f e c
  ·rw[show aY 17 (.node b o a x r)=aY 17 r from if_neg d]at c;exact ih f e c
theorem aY3(t:Tr)(k:Nat):oM (er t) k=oM t k:=by
 grind[oM,wX,aVS,List.map_map,aVM]
theorem aPH(a O:Nat)(w:World)(h:w.cell? ⟨a,1,none⟩=some (Qd O)):Calls prog 45 #[Qd a] w fun e b=>e= .returned (.bool false)/\w=b:=by
 go_enter func45,ntmps45
 go_wp2;go_ret;trivial
theorem aQ5{f:Nat}{s:ByteArray}{w:World}(h:PgW f s w)(i:(fZ (rZ s) s.size).a=0)(d:Ws 8 (rZ s)):∃ n:Nat,oM (rZ s) (vQ (rZ s)).toNat=some n/\Calls prog 31 #[Qd f] w fun e G=>e= .returned (Qc (n:Int))/\∃ n,G=w.drewN n:=by
 obtain⟨K,g,L,O,t,J,N,I,k0,c⟩:=h.ex;have q:=c.er;rw[<-q]at d i;have d:=(Ws.er t 8).1 d;rw[aMX]at i;have v:=aN0 d i;obtain⟨j,u,p⟩:=v.main;obtain⟨e,k⟩:∃ e,(yE t)[j]?=some e:=⟨_,List.getElem?_eq_getElem p⟩;have m:=Qr k;obtain⟨b,o,a,l,r,rfl,F⟩:=aVR ((aCW d).1.elems Ot) _ m;obtain⟨Q,Y,P,X,a3,a4,a5,Z,a2,e1,C,_⟩:=c.fns.own _ m;cases e1;refine⟨aJ l,?_,?_⟩
 ·rw[<-q,aY3,aV4,u,Int.toNat_natCast];unfold oM;rw[<-v.par,List.getElem?_map,show(aY 17 (aD (aA1 t)))[j]?=_ from k];rfl
 obtain⟨ao,R,A⟩:=F.w0 Ou;have c3:=C.cells.2.2.1;rw[A]at c3;have W:j < (yE t).length:=p;rcases c.fns.row.2 with⟨_,h0⟩|⟨x,H,S,z,_,D,_,_,_,B⟩
 ·omega
 have U:w.cell? ⟨x,j,none⟩=some (Qd b):=by
  have y:((yE t).map fO)[j]?=some (Qd b):=by rw[List.getElem?_map,k];rfl
  rw[<-B,List.getElem?_take,if_pos Oa]at y;rw[cell_of_row _ _ _ _ _ _ D,<-y];simp
 have pF:w.cell? ⟨O,2,none⟩=some (Qe x (yE t).length H):=by
  rw[cell_of_row _ _ _ _ _ _ c.prog];exact congrArg some z
 have pm:w.cell? ⟨O,3,none⟩=some (Qc j):=by
  rw[cell_of_row _ _ _ _ _ _ c.prog,<-u];rfl
 have c1:w.cell? ⟨f,1,none⟩=some (Qd O):=Og k0 rfl
 have E:=aPH f O w c1;have V:0<=(j:Int)/\(j:Int) < ((yE t).length:Int):=Oa
 generalize (yE t).length=M at*;clear D B c k0 m F C A u d i v k q p z;go_enter func31,ntmps31
 go_wp2_with fail
 refine E.mono ?_;rintro e G ⟨rfl,rfl⟩;clear E;go_upto_region 3 with fail
 go_quiet (fail)
 go_wp2;go_ret;exact⟨rfl,_,rfl⟩
end
end Go.Proofs.YtikffmloeifkpaaGreatDoor
