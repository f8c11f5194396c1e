/- Contracts. -/
import Derived.Test.YtikffmloeifkpaaGreatDoorR18
set_option maxHeartbeats 8000000
set_option maxRecDepth 100000
namespace Go.Proofs.YtikffmloeifkpaaGreatDoor
open Go.RowKit Go.Lib Go.Deep Go.ChangeMaps Go.MapKept Tryz
section
def rdT(s:ByteArray):Tr:=(bP (aW s)).2
def eZ(s:ByteArray):Int × Int:=
 if 4000 < s.size then(1,0)else if(dN s).a≠0 then((dN s).a,(dN s).e)
 else if(bP (aW s)).1.a≠0 then((bP (aW s)).1.a,(bP (aW s)).1.e)else((fO (rdT s) s.size).a,(fO (rdT s) s.size).e)
def cR(t:Tr):List Tr:=aF 17 (bCF (dY t))
structure Pg0(H g J O:Nat)(s:ByteArray)(t:Tr)(D M B:Value)(w:World):Prop where
 toks:aGY (aW s) g J w
 er:YtikffmloeifkpaaGreatDoor.er t=rdT s
 ge:H<=O
 prog:w.1[O]?=some (.cells (qM (bCH t) D M (qV t) B) 111 (0,0))
 arrs:w.ownsRow H 192 1 D (oU t) (nH 16 (bCF t))
 fns:aAG H M (cR t) w
 d:w.ownsRow H 55 3 B (siR (cR t) (dY t) []).length (dC (siR (cR t) (dY t) []))
 is:IsT w (siT (cR t) (dY t) [])
 fresh:aUI H t
structure PgW(ab:Nat)(s:ByteArray)(w:World):Prop where
 ex:∃ H g J O t D M B,w.1[ab]?=some (Qf #[Qe g (aW s).length J,Qd O] 94)/\Pg0 H g J O s t D M B w
theorem Pg0.off{H g J O k:Nat}{s:ByteArray}{t:Tr}{D M B:Value}{w w':World}{c:Array Value}(h:Pg0 H g J O s t D M B w)(m:w.1[k]?=some (.cells c 37 (0,0)))(n:∀ i,i < w.1.size->i≠k->w'.1[i]?=w.1[i]?):Pg0 H g J O s t D M B w':=by
 have off:∀ {j:Nat} {c2:Array Value} {p:TypeId},w.1[j]?=some (.cells c2 p (0,0))->p≠37->w'.1[j]?=w.1[j]?:=Qg;obtain⟨E,F,G⟩:=h.toks.row;refine⟨⟨Qg,h.toks.cap_,h.toks.few,h.toks.e,h.toks.last,h.toks.vals⟩,h.er,h.ge,(off h.prog Ob).t h.prog,cD h.arrs (fun j d=>?_),⟨cD h.fns.row (fun j d=>?_),fun e v=>?_⟩,cD h.d (fun j d=>?_),IsT.off Oy m n h.is,h.fresh⟩
 ·obtain⟨⟨c,f⟩,_⟩:=bEH h.arrs d
  grind
 ·obtain⟨⟨c,f⟩,_⟩:=bEH h.fns.row d
  grind
 ·obtain⟨b,o,a,l,z,A,C,x,y,q,r,u⟩:=h.fns.own e v;exact⟨b,o,a,l,z,A,C,x,y,q,At.off r m Ob n,u⟩
 ·obtain⟨⟨c,f⟩,_⟩:=bEH h.d d
  grind
def aH1(s:ByteArray)(w:World):Ending->World->Prop:=fun e w'=>Below w.1.size w w'/\
 (((eZ s).1≠0/\e= .returned (.tuple #[.pointer none,.agg #[Qc (eZ s).1,Qc (eZ s).2]]))\/
  ((eZ s).1=0/\∃ ab,e= .returned (.tuple #[Qd ab,.agg #[Qc 0,Qc 0]])/\PgW ab s w'))
theorem iV{w:World}{k:Nat}{u v:Value}{t:TypeId}(h:w.1[k]?=some (Qf #[u,v] t)):w.cell? ⟨k,0,none⟩=some u/\w.cell? ⟨k,1,none⟩=some v/\∀ o,w.frozen? ⟨k,o,none⟩=false:=
 ⟨Og h rfl,Og h rfl,(by grind[World.frozen?])⟩
theorem uU{w:World}{k:Nat}{u v u' v':Value}{t:TypeId}(h:w.1[k]?=some (Qf #[u,v] t)):((w.setCell ⟨k,0,none⟩ u').setCell ⟨k,1,none⟩ v').1[k]?=some (Qf #[u',v'] t):=by
 have a:=aM (o:=0) u' h;have b:=aM (o:=1) v' a;exact b
theorem bCO{w:World}{k:Nat}{u v:Value}:∀ i,i≠k->((w.setCell ⟨k,0,none⟩ u).setCell ⟨k,1,none⟩ v).1[i]?=w.1[i]?:=(by grind[Below.heap_setCell])
theorem aP0(s:ByteArray)(w:World)(ht:Tab w)(hz:s.size<=4000):
 Calls prog 19 #[.string s] w (aH1 s w):=by
 have h0:=aBP ht;have sa:(w.alloc (Qf #[Qc 0,Qc 0] 37)).1.size=w.1.size+1:=Od
 have ba:Below w.1.size w (w.alloc (Qf #[Qc 0,Qc 0] 37)):=(Below.refl _ _).alloc Ol _;have ta:Tab (w.alloc (Qf #[Qc 0,Qc 0] 37)):=ht.below ba h0;have na:(w.alloc (Qf #[Qc 0,Qc 0] 37)).1[w.1.size]?=some (Qf #[Qc 0,Qc 0] 37):=Qk w _;go_enter func19,ntmps19
 go_wp2_with fail
 generalize w.alloc (Qf #[Qc 0,Qc 0] 37)=Wa at*;refine(aRH s Wa ta hz).mono ?_;rintro e a ⟨Z,y3⟩;rw[sa]at Z;have l1:=Z.size;have n1:a.1[w.1.size]?=some (Qf #[Qc 0,Qc 0] 37):=(Z.block _ Oa).t na;have a5:Below w.1.size w a:=ba.t (Z.mono Oa);rcases y3 with⟨n,rfl⟩|⟨n,g,J,rfl,k6⟩
 ·have k4:((dN s).a !=0)=true:=by simpa using n
  have k1:(a.alloc (Qf #[Qc (dN s).a,Qc (dN s).e] 37)).1[w.1.size]?=some (Qf #[Qc 0,Qc 0] 37):=(On Oa).t n1;have k2:(a.alloc (Qf #[Qc (dN s).a,Qc (dN s).e] 37)).1[a.1.size]?=some (Qf #[Qc (dN s).a,Qc (dN s).e] 37):=Qk _ _;have a2:Below w.1.size w (a.alloc (Qf #[Qc (dN s).a,Qc (dN s).e] 37)):=a5.alloc Oa _;have y6:w.1.size≠a.1.size:=Oa
  have m:eZ s=((dN s).a,(dN s).e):=by unfold eZ;rw[Oh,if_pos n]
  go_wp2_with fail
  generalize a.alloc (Qf #[Qc (dN s).a,Qc (dN s).e] 37)=W at*;obtain⟨h,i,E⟩:=iV k1;obtain⟨K,L,N⟩:=iV k2;have F:Hid _:=m;have HC:Hid _:=n;clear m n ba Z a5 n1 na ta ht h0 hz k1 k2;generalize z5:(dN s).a=c3 at*;generalize z4:(dN s).e=c4 at*;clear z5 z4;go_region
  all_goals go_wp2
  all_goals obtain⟨T,U⟩:=dQ (w:=W) (u0:= Qc c3) (u1:= Qc c4) h i
  all_goals (refine bodyPost_ret (v:= .tuple #[.pointer none,.agg #[Qc c3,Qc c4]]) (by simp[results,results19,go_sem,T,U]) rfl ⟨?_,Or.l ⟨?_,?_⟩⟩)
  all_goals first|(rw[F.o];exact HC.o)|(rw[F.o])|exact(Qv (p:=⟨w.1.size,1,none⟩) (Qv (p:=⟨w.1.size,0,none⟩) a2 Ol _) Ol _).drew|exact Qv (p:=⟨w.1.size,1,none⟩) (Qv (p:=⟨w.1.size,0,none⟩) a2.drew Ol _) Ol _
 ·have S:(aW s).length=(dN s).words.length+1:=by simp[aW]
  have V:=mV n hz
  have d:aGY (aW s) g J (a.alloc (Qf #[Qc 0,Qc 0] 37)):=by
   rcases k6.2 with⟨hv,_⟩|⟨g',b8,o,hv,hb,hh,z8,c6,b9,z⟩
   ·cases hv
   ·simp only[Value.slice.injEq,Option.some.injEq,Addr.mk.injEq]at hv;obtain⟨⟨rfl,_,_⟩,_,rfl⟩:=hv;exact⟨⟨o,(On (Oo hh)).t hh,by rw[S];exact z⟩,by rw[S];exact z8,V.few,by rw[S];omega,lI s,V.vals⟩
  have hP:=aL2 (aW s) g J _ d;rw[S]at hP;have s2:(a.alloc (Qf #[Qc 0,Qc 0] 37)).1.size=a.1.size+1:=Od
  have k1:(a.alloc (Qf #[Qc 0,Qc 0] 37)).1[w.1.size]?=some (Qf #[Qc 0,Qc 0] 37):=(On Oa).t n1;have k2:(a.alloc (Qf #[Qc 0,Qc 0] 37)).1[a.1.size]?=some (Qf #[Qc 0,Qc 0] 37):=Qk _ _;have a2:Below w.1.size w (a.alloc (Qf #[Qc 0,Qc 0] 37)):=a5.alloc Oa _;have y6:w.1.size≠a.1.size:=Oa
  go_wp2_with fail
  generalize a.alloc (Qf #[Qc 0,Qc 0] 37)=W at*;refine hP.mono ?_;rintro e f ⟨P,y3⟩;have l3:=P.size;have m1:=(P.block w.1.size Oa).t k1;have m2:=(P.block a.1.size Oa).t k2;have a6:Below w.1.size w f:=a2.t (P.mono Oa)
  have x:aGY (aW s) g J f:=by
   obtain⟨o,y,z⟩:=d.row;exact⟨⟨o,(P.block g (Oo y)).t y,z⟩,d.cap_,d.few,d.e,d.last,d.vals⟩
  obtain⟨h,i,E⟩:=iV m1;obtain⟨K,L,N⟩:=iV m2;rcases y3 with⟨C,rfl⟩|⟨C,O,t,rfl,j5,k9,y7,k3,c7⟩
  ·have m:eZ s=((bP (aW s)).1.a,(bP (aW s)).1.e):=by unfold eZ;rw[Oh,Oh,if_pos C]
   have F:Hid _:=m;have HC:Hid _:=C;have k4:((bP (aW s)).1.a !=0)=true:=by simpa using C
   have l:=(bCO (w:=f) (k:=a.1.size) (u:= Qc (bP (aW s)).1.a) (v:= Qc (bP (aW s)).1.e) w.1.size y6).t m1;have q:=uU (u':= Qc (bP (aW s)).1.a) (v':= Qc (bP (aW s)).1.e) m2;have a1:Below w.1.size w ((f.setCell ⟨a.1.size,0,none⟩ (Qc (bP (aW s)).1.a)).setCell ⟨a.1.size,1,none⟩ (Qc (bP (aW s)).1.e)):=(a6.setCell (p:=⟨a.1.size,0,none⟩) (by show w.1.size<=a.1.size;omega) _).setCell (p:=⟨a.1.size,1,none⟩) (by show w.1.size<=a.1.size;omega) _;clear m C ba Z a5 n1 na ta ht h0 hz k1 k2 n k6 S V d hP x P a2 m1 m2;generalize z5:(bP (aW s)).1.a=c3 at*;generalize z4:(bP (aW s)).1.e=c4 at*;clear z5 z4;go_wp2_with fail
   generalize (f.setCell ⟨a.1.size,0,none⟩ (Qc c3)).setCell ⟨a.1.size,1,none⟩ (Qc c4)=W4 at*;clear h i E K L N a6;obtain⟨h,i,E⟩:=iV l;obtain⟨K,L,N⟩:=iV q;clear l q;go_region
   all_goals go_wp2
   all_goals obtain⟨T,U⟩:=dQ (w:=W4) (u0:= Qc c3) (u1:= Qc c4) h i
   all_goals (refine bodyPost_ret (v:= .tuple #[.pointer none,.agg #[Qc c3,Qc c4]]) (by simp[results,results19,go_sem,T,U]) rfl ⟨?_,Or.l ⟨?_,?_⟩⟩)
   all_goals first|(rw[F.o];exact HC.o)|(rw[F.o])|exact(Qv (p:=⟨w.1.size,1,none⟩) (Qv (p:=⟨w.1.size,0,none⟩) a1 Ol _) Ol _).drew|exact Qv (p:=⟨w.1.size,1,none⟩) (Qv (p:=⟨w.1.size,0,none⟩) a1.drew Ol _) Ol _
  ·have y5:Ws 8 t:=(Ws.er t 8).1 (by rw[y7];exact(bNX V (lI s) d.e C).1);have g6:=aRN (aBN n) (by have:=(bNX V (lI s) d.e C).2;exact this);have j4:ps t=ps (bP (aW s)).2:=by rw[<-aRP t,y7]
   rw[<-j4]at g6;obtain⟨z7,y1⟩:=g6;have z3:=d.few;have z8:=aQN t;have l:=(bCO (w:=f) (k:=a.1.size) (u:= Qc 0) (v:= Qc 0) w.1.size y6).t m1;have q:=uU (u':= Qc 0) (v':= Qc 0) m2;have a1:Below w.1.size w ((f.setCell ⟨a.1.size,0,none⟩ (Qc 0)).setCell ⟨a.1.size,1,none⟩ (Qc 0)):=(a6.setCell (p:=⟨a.1.size,0,none⟩) (by show w.1.size<=a.1.size;omega) _).setCell (p:=⟨a.1.size,1,none⟩) (by show w.1.size<=a.1.size;omega) _;have z6:dV a.1.size t:=k3.fresh.notIn Oa;have y0:=(k3.set z6 0 (Qc 0)).set z6 1 (Qc 0);have k0:((f.setCell ⟨a.1.size,0,none⟩ (Qc 0)).setCell ⟨a.1.size,1,none⟩ (Qc 0)).1[O]?=some (.cells (qM (bCH t) (.slice none 0 0) (.slice none 0 0) 0 (.slice none 0 0)) 111 (0,0)):=(bCO O Oa).t k9
   have H:aGY (aW s) g J ((f.setCell ⟨a.1.size,0,none⟩ (Qc 0)).setCell ⟨a.1.size,1,none⟩ (Qc 0)):=by
    obtain⟨o,y,z⟩:=x.row;exact⟨⟨o,(bCO g (bEF y m2 Ob)).t y,z⟩,x.cap_,x.few,x.e,x.last,x.vals⟩
   have l4:((f.setCell ⟨a.1.size,0,none⟩ (Qc 0)).setCell ⟨a.1.size,1,none⟩ (Qc 0)).1.size=f.1.size:=by simp[World.setCell]
   have h9:=aFA y5 k3.fresh z7 Oa j5 s.size _ (by rw[l4];exact P.size) y0.is k0;go_wp2_with fail
   generalize (f.setCell ⟨a.1.size,0,none⟩ (Qc 0)).setCell ⟨a.1.size,1,none⟩ (Qc 0)=W4 at*;refine h9.mono ?_;rintro e b ⟨rfl,l5,b5,b7,b6,a4,y4⟩;have a7:Below w.1.size w b:=a1.t ⟨b5,b7,b6,l5,fun k hk=>a4 k Oa⟩;have f1:=(a4 w.1.size Oa).t l;have G:=(a4 a.1.size Oa).t q;have j7:∀ k,k < W.1.size->b.1[k]?=W4.1[k]?:=a4;have h6:=k3.fresh;clear h i E K L N m1 m2 k9 k0 y0 k3 a4;obtain⟨h,i,E⟩:=iV f1;obtain⟨K,L,N⟩:=iV G;have j3:fO (rdT s) s.size=fO t s.size:=by rw[<-aHI t];show fO (rdT s) _=fO (er t) _;rw[y7];rfl
   have m:eZ s=((fO t s.size).a,(fO t s.size).e):=by unfold eZ;rw[Oh,Oh,Oh,j3]
   have l:=(bCO (w:=b) (k:=a.1.size) (u:= Qc (fO t s.size).a) (v:= Qc (fO t s.size).e) w.1.size y6).t f1;have q:=uU (u':= Qc (fO t s.size).a) (v':= Qc (fO t s.size).e) G;have a3:Below w.1.size w ((b.setCell ⟨a.1.size,0,none⟩ (Qc (fO t s.size).a)).setCell ⟨a.1.size,1,none⟩ (Qc (fO t s.size).e)):=(a7.setCell (p:=⟨a.1.size,0,none⟩) (by show w.1.size<=a.1.size;omega) _).setCell (p:=⟨a.1.size,1,none⟩) (by show w.1.size<=a.1.size;omega) _
   by_cases A:(fO t s.size).a=0
   ·have y8:=aHM y5 A;obtain⟨w8,b1,d1,c8⟩:=lM y5;obtain⟨Y,R,D,M,g9,j0,z9,d5⟩:=y4 A;have d2:(eZ s).1=0:=by rw[m];exact A
    rw[A]at q a3 l;have b3:∀ I,I < b.1.size->I≠a.1.size->((b.setCell ⟨a.1.size,0,none⟩ (Qc 0)).setCell ⟨a.1.size,1,none⟩ (Qc (fO t s.size).e)).1[I]?=b.1[I]?:=fun I _ hi=>bCO I hi
    have g3:=cD (w':=(b.setCell ⟨a.1.size,0,none⟩ (Qc 0)).setCell ⟨a.1.size,1,none⟩ (Qc (fO t s.size).e)) j0 (fun a9 hj=>by
     obtain⟨⟨c,j9⟩,_⟩:=bEH j0 hj;exact bCO a9 (bEF j9 G Ob))
    have g0:=cD (w':=(b.setCell ⟨a.1.size,0,none⟩ (Qc 0)).setCell ⟨a.1.size,1,none⟩ (Qc (fO t s.size).e)) z9 (fun a9 hj=>by
     obtain⟨⟨c,j9⟩,_⟩:=bEH z9 hj;exact bCO a9 (bEF j9 G Ob))
    have d4:=IsT.off Oy G b3 d5;have g8:=(bCO (w:=b) (k:=a.1.size) (u:= Qc 0) (v:= Qc (fO t s.size).e) O Oa).t g9;obtain rfl:=aDT j0;obtain rfl:=aDT z9;rw[aJB y5,List.length_map]at g0;have l6:((b.setCell ⟨a.1.size,0,none⟩ (Qc 0)).setCell ⟨a.1.size,1,none⟩ (Qc (fO t s.size).e)).1.size=b.1.size:=by simp[World.setCell]
    have d0:(nH 16 (bCF t)).length=oU t:=by rw[bSH,List.length_map];rfl
    rw[d0]at g3
    have Q:aGY (aW s) g J ((b.setCell ⟨a.1.size,0,none⟩ (Qc 0)).setCell ⟨a.1.size,1,none⟩ (Qc (fO t s.size).e)):=by
     obtain⟨o,y,z⟩:=H.row;obtain⟨b4,j8,j1⟩:=d.row;have j6:=(Oo j8);have z2:=(j7 g j6).t y;exact⟨⟨o,(bCO g (bEF z2 G Ob)).t z2,z⟩,H.cap_,H.few,H.e,H.last,H.vals⟩
    have j6:g < W.1.size:=by
     obtain⟨b4,j8,j1⟩:=d.row;exact(Oo j8)
    have y9:=aH2 w8 (d1 _ h6) (by rw[b1];exact z7) (y8.cv w8) j5 _ (by rw[l6];omega) d4 g8 g0 (by rw[b1];omega);rw[A];have d9:Hid _:=d2;have d8:Hid (er t=rdT s):=y7;have g5:Hid (aUI W.1.size t):=h6;have g4:Hid _:=S;clear m A j3 y4 f1 G a7 j7 h9 H a1 y5 j4 z7 y1 z3 z8 z6 x hP d V k6 n C y7 h6 d2 g9 j0 z9 d5 b3 y8 w8 b1 d1 d4 g0 g8 d0 S;generalize (fO t s.size).e=c4 at*;go_wp2_with fail
    generalize (b.setCell ⟨a.1.size,0,none⟩ (Qc 0)).setCell ⟨a.1.size,1,none⟩ (Qc c4)=W6 at*;refine y9.mono ?_;rintro e j ⟨rfl,X,j2,d3,r⟩;have a8:Below w.1.size w j:=a3.t ⟨r.os,r.tape,r.output,r.size,fun k hk=>r.below k Oa⟩;have g1:=(r.below w.1.size Oa).t l;obtain⟨B,g7,d6⟩:=j2.prog;have d7:=kJ g3 r Oy (fun t p hp=>(Pt.body t p hp).e)
    have h8:aGY (aW s) g J j:=by
     obtain⟨o,y,z⟩:=Q.row;exact⟨⟨o,(r.below g j6).t y,z⟩,Q.cap_,Q.few,Q.e,Q.last,Q.vals⟩
    have P7:Pg0 W.1.size g J O s t D M B j:=⟨h8,d8.o,j5,g7,d7,j2.fns,d6,d3,g5.o⟩;have l7:=a8.size;have c5:w.1.size < j.1.size:=(Oo g1);clear h i E K L N;obtain⟨h,i,E⟩:=iV g1
    have b2:Hid (Below w.1.size w (((j.setCell ⟨w.1.size,0,none⟩ (Qc 0)).setCell ⟨w.1.size,1,none⟩ (Qc 0)).alloc (Qf #[Qe g ((dN s).words.length+1) J,Qd O] 94))/\PgW j.1.size s (((j.setCell ⟨w.1.size,0,none⟩ (Qc 0)).setCell ⟨w.1.size,1,none⟩ (Qc 0)).alloc (Qf #[Qe g ((dN s).words.length+1) J,Qd O] 94))):=by
     have lz:((j.setCell ⟨w.1.size,0,none⟩ (Qc 0)).setCell ⟨w.1.size,1,none⟩ (Qc 0)).1.size=j.1.size:=by simp[World.setCell]
     refine⟨((a8.setCell Ol _).setCell Ol _).alloc (by rw[lz];exact l7) _,_,g,J,O,t,D,M,B,?_,P7.off g1 (fun I hi y6=>?_)⟩
     ·rw[g4.o,<-lz];exact Qk _ _
     ·exact(On (by rw[lz];exact hi)).t (bCO I y6)
    have g2:(((j.setCell ⟨w.1.size,0,none⟩ (Qc 0)).setCell ⟨w.1.size,1,none⟩ (Qc 0)).alloc (Qf #[Qe g ((dN s).words.length+1) J,Qd O] 94)).1[w.1.size]?=some (Qf #[Qc 0,Qc 0] 37):=(On (by simp[World.setCell];omega)).t (uU g1);obtain⟨T,U,_⟩:=iV g2;clear j2 d3 r g7 d6 d7 h8 P7 l q a3 a8 g1 y9 g3 Q;go_wp2;refine bodyPost_ret (v:= .tuple #[Qd j.1.size,.agg #[Qc 0,Qc 0]]) (by simp[results,results19,go_sem,T,U]) rfl ⟨b2.o.1,.r ⟨d9.o,_,rfl,b2.o.2⟩⟩
   ·have k4:((fO t s.size).a !=0)=true:=by simpa using A
    have F:Hid _:=m;have HC:Hid _:=A;clear m A j3 y4 f1 G a7 j7 h9 H a1 y5 j4 z7 y1 z3 z8 z6 x hP d V k6 n C y7 h6;generalize z5:(fO t s.size).a=c3 at*;generalize z4:(fO t s.size).e=c4 at*;clear z5 z4;go_wp2_with fail
    generalize (b.setCell ⟨a.1.size,0,none⟩ (Qc c3)).setCell ⟨a.1.size,1,none⟩ (Qc c4)=W6 at*;clear h i E K L N;obtain⟨h,i,E⟩:=iV l;obtain⟨K,L,N⟩:=iV q;clear l q;go_region
    all_goals go_wp2
    all_goals obtain⟨T,U⟩:=dQ (w:=W6) (u0:= Qc c3) (u1:= Qc c4) h i
    all_goals (refine bodyPost_ret (v:= .tuple #[.pointer none,.agg #[Qc c3,Qc c4]]) (by simp[results,results19,go_sem,T,U]) rfl ⟨?_,Or.l ⟨?_,?_⟩⟩)
    all_goals first|(rw[F.o];exact HC.o)|(rw[F.o])|exact(Qv (p:=⟨w.1.size,1,none⟩) (Qv (p:=⟨w.1.size,0,none⟩) a3 Ol _) Ol _).drew|exact Qv (p:=⟨w.1.size,1,none⟩) (Qv (p:=⟨w.1.size,0,none⟩) a3.drew Ol _) Ol _
theorem aL1(s:ByteArray)(w:World)(c:4000 < s.size)(q:s.size<=maxLen):Calls prog 19 #[.string s] w (aH1 s w):=by
 have u:(w.alloc (Qf #[Qc 0,Qc 0] 37)).1.size=w.1.size+1:=Od
 have f:Below w.1.size w (w.alloc (Qf #[Qc 0,Qc 0] 37)):=(Below.refl _ _).alloc Ol _;have m:(w.alloc (Qf #[Qc 0,Qc 0] 37)).1[w.1.size]?=some (Qf #[Qc 0,Qc 0] 37):=Qk w _;have i:eZ s=(1,0):=by unfold eZ;rw[if_pos c]
 go_enter func19,ntmps19
 go_wp2_with fail
 generalize w.alloc (Qf #[Qc 0,Qc 0] 37)=o at*;refine(aP4 s o c q).mono ?_;rintro e a ⟨rfl,b⟩;rw[u]at b;have A:=b.size;have l:a.1[w.1.size]?=some (Qf #[Qc 0,Qc 0] 37):=(b.block _ Oa).t m;have g:Below w.1.size w a:=f.t (b.mono Oa);have j:(a.alloc (Qf #[Qc 1,Qc 0] 37)).1[w.1.size]?=some (Qf #[Qc 0,Qc 0] 37):=(On Oa).t l;have k:(a.alloc (Qf #[Qc 1,Qc 0] 37)).1[a.1.size]?=some (Qf #[Qc 1,Qc 0] 37):=Qk _ _;have h:Below w.1.size w (a.alloc (Qf #[Qc 1,Qc 0] 37)):=g.alloc Oa _;have z:w.1.size≠a.1.size:=Oa
 go_wp2_with fail
 generalize a.alloc (Qf #[Qc 1,Qc 0] 37)=n at*;obtain⟨r,t,D⟩:=iV j;obtain⟨B,C,E⟩:=iV k;have d:Hid _:=i;clear i f b g l m c j k;go_region
 all_goals go_wp2
 all_goals obtain⟨x,y⟩:=dQ (w:=n) (u0:= Qc 1) (u1:= Qc 0) r t
 all_goals (refine bodyPost_ret (v:= .tuple #[.pointer none,.agg #[Qc 1,Qc 0]]) (by simp[results,results19,go_sem,x,y]) rfl ⟨?_,Or.l ⟨?_,?_⟩⟩)
 all_goals first|(rw[d.o];decide)|(rw[d.o])|exact(Qv (p:=⟨w.1.size,1,none⟩) (Qv (p:=⟨w.1.size,0,none⟩) h Ol _) Ol _).drew|exact Qv (p:=⟨w.1.size,1,none⟩) (Qv (p:=⟨w.1.size,0,none⟩) h.drew Ol _) Ol _
theorem aA6(s:ByteArray)(w:World)(b:Tab w)(a:s.size<=maxLen):Calls prog 19 #[.string s] w (aH1 s w):=by
 rcases Qt 4000 s.size with h|h
 ·exact aL1 s w h a
 ·exact aP0 s w b h
theorem Pg0.b{H g J O:Nat}{s:ByteArray}{t:Tr}{D M B:Value}{w w':World}(h:Pg0 H g J O s t D M B w)(m:∀ i,i < w.1.size->w'.1[i]?=w.1[i]?):Pg0 H g J O s t D M B w':=by
 have off:∀ {j:Nat} {c2:Array Value} {v:TypeId},w.1[j]?=some (.cells c2 v (0,0))->w'.1[j]?=w.1[j]?:=Qg;obtain⟨A,C,E⟩:=h.toks.row;refine⟨⟨Qg,h.toks.cap_,h.toks.few,h.toks.e,h.toks.last,h.toks.vals⟩,h.er,h.ge,(off h.prog).t h.prog,cD h.arrs (fun j d=>?_),⟨cD h.fns.row (fun j d=>?_),fun e q=>?_⟩,cD h.d (fun j d=>?_),IsT.b m h.is,h.fresh⟩
 ·obtain⟨⟨c,k⟩,_⟩:=bEH h.arrs d
  grind
 ·obtain⟨⟨c,k⟩,_⟩:=bEH h.fns.row d
  grind
 ·obtain⟨b,o,a,l,x,y,z,r,u,n,f,p⟩:=h.fns.own e q;exact⟨b,o,a,l,x,y,z,r,u,n,At.same f (m _ (At.lt f)),p⟩
 ·obtain⟨⟨c,k⟩,_⟩:=bEH h.d d
  grind
theorem dP{w:World}{k:Nat}{a b c d:Value}{t:TypeId}(h:w.1[k]?=some (Qf #[a,b,c,d] t)):w.cell? ⟨k,0,none⟩=some a/\w.cell? ⟨k,1,none⟩=some b/\w.cell? ⟨k,2,none⟩=some c/\w.cell? ⟨k,3,none⟩=some d/\∀ o,w.frozen? ⟨k,o,none⟩=false:=
 ⟨Og h rfl,Og h rfl,Og h rfl,Og h rfl,(by grind[World.frozen?])⟩
theorem PgW.b{a:Nat}{s:ByteArray}{w w':World}(h:PgW a s w)(c:∀ i,i < w.1.size->w'.1[i]?=w.1[i]?):PgW a s w':=by
 obtain⟨H,g,J,O,t,D,M,B,d,b⟩:=h.ex;exact⟨H,g,J,O,t,D,M,B,Qg,b.b c⟩
end
section
theorem bZG(r:Int)(w:World):Calls prog 229 #[Qc r] w fun e a=>e= .returned (.bool (kZ r))/\w=a:=by
 go_enter func229,ntmps229
 go_wp2
 all_goals (go_ret;exact⟨bX (by simp[kZ];try omega),rfl⟩)
theorem bY5(r:Int)(w:World):Calls prog 228 #[Qc r] w fun e a=>e= .returned (.bool (oK r))/\w=a:=by
 go_enter func228,ntmps228
 go_wp2
 all_goals (go_ret;exact⟨yL (by simp[oK];try omega),rfl⟩)
def inL(s:ByteArray):List UInt8->List UInt8->Bool
 |[],acc=>decide ((⟨acc.toArray⟩:ByteArray)=s)
 |c::r,acc=>if c=32 then(if(⟨acc.toArray⟩:ByteArray)=s then true else inL s r [])else inL s r (acc++[c])
def inQ(s all:ByteArray):Bool:=inL s all.data.toList []
def bRW(s all:ByteArray)(a i:Nat):Bool:=inL s (all.data.toList.drop i) ((all.data.toList.take i).drop a)
theorem bYZ(all:ByteArray)(a i:Nat):(⟨((all.data.toList.take i).drop a).toArray⟩:ByteArray)=all.extract a i:=by
 apply ByteArray.ext;rw[ByteArray.data_extract];apply Array.ext';simp[List.drop_take]
theorem bZC(s all:ByteArray)(w:World)(X:all.size<=1000):Calls prog 165 #[.string s,.string all] w fun e P=>e= .returned (.bool (inQ s all))/\w=P:=by
 have Y:(all.size:Int)<=1000:=Oa
 obtain⟨R,d⟩:∃ R,R=inQ s all:=⟨_,rfl⟩;rw[<-d];have W:all.data.toList.length=all.size:=rfl;have C:∃ a i:Nat,Qc 0= Qc a/\Qc 0= Qc i/\a<=i/\i<=all.size+1/\all.size+2<=i+(all.size+2)/\(i<=all.size->R=bRW s all a i)/\(i=all.size+1->R=false):=⟨0,0,rfl,rfl,Ql _,Qn _,Oa,fun _=>d,fun h=>Oa⟩;clear d;go_enter func165,ntmps165
 go_wp2_with fail
 go_loopg [5,6] (all.size+2) (fun m x O wr=>∃ a i:Nat,x= Qc a/\O= Qc i/\a<=i/\i<=all.size+1/\all.size+2<=i+m/\(i<=all.size->R=bRW s all a i)/\(i=all.size+1->R=false)/\w=wr)
 case atStart=>
  obtain⟨a,i,r,G,H,I,J,K,L⟩:=C;exact⟨a,i,r,G,H,I,J,K,L,rfl⟩
 case round=>
  clear C;obtain⟨a,i,rfl,rfl,v,hi,t,d,p,rfl⟩:=hrel
  by_cases k:i<=all.size
  ·have Q:(i:Int)<=(all.size:Int):=Oa
   have U:(a:Int)<=(i:Int):=Oa
   have T:(0:Int)<=(a:Int):=Oa
   obtain⟨m,rfl⟩:=Oj gk;have n:=bYZ all a i;have d:=d k;have q:Hid (all.size+2<=i+(m+1)):=t;have l:Hid (i<=all.size/\a<=i):=⟨k,v⟩
   have f:∀ x:ByteArray,(x.toList==s.toList)=decide (x=s):=fun x=>by
    rw[Lib.toList_data,Lib.toList_data,Bool.eq_iff_iff,beq_iff_eq,decide_eq_true_eq];exact⟨fun h=>ByteArray.ext (Array.ext' h),fun h=>by rw[h]⟩
   by_cases u:i=all.size
   ·have N:((i:Int)==(all.size:Int))=true:=by rw[beq_iff_eq];omega
    have b:R=decide (all.extract a i=s):=by
     rw[d];unfold bRW;rw[List.drop_eq_nil_of_le Oa];show decide _=_;rw[n]
    have E:Hid (i=all.size):=u;clear u d p t k v hi n
    by_cases c:all.extract a i=s
    ·have A:((all.extract a i).toList==s.toList)=true:=by rw[f,decide_eq_true c]
     have g:Hid (R=true):=by rw[Hid,b,decide_eq_true c]
     clear b c f;go_wp2;go_ret;exact⟨bX g.o.symm,rfl⟩
    ·have A:((all.extract a i).toList==s.toList)=false:=by rw[f,decide_eq_false c]
     have g:Hid (R=false):=by rw[Hid,b,decide_eq_false c]
     clear b c f;go_wp2;go_roundg m
     case rel=>exact⟨i+1,i+1,Od,Od,Ql _,Oi l.o,Oi q.o,fun h=>Oi E.o,fun _=>g.o,rfl⟩
     case measure=>omega
   ·have N:((i:Int)==(all.size:Int))=false:=by rw[Bool.eq_false_iff,Ne,beq_iff_eq];omega
    have o:i < all.size:=Oa
    have V:0<=(i:Int)/\(i:Int) < (all.size:Int):=Oa
    have D:all.data.toList.drop i=all[i]::all.data.toList.drop (i+1):=List.drop_eq_getElem_cons Oa
    have b:R=if all[i]=32 then(if all.extract a i=s then true else bRW s all (i+1) (i+1))else bRW s all a (i+1):=by
     rw[d];unfold bRW;rw[D,inL,n];rw[List.take_add_one,List.getElem?_eq_getElem Oa]
     have F:((all.data.toList.take i++(some all.data.toList[i]).toList).drop (i+1))=[]:=by
      apply List.drop_eq_nil_of_le;simp;omega
     have r:((all.data.toList.take i++(some all.data.toList[i]).toList).drop a)=(all.data.toList.take i).drop a++[all[i]]:=by
      rw[List.drop_append_of_le_length (by simp;omega)];rfl
     rw[F,r]
    have z:all[i]=32->R=(if all.extract a i=s then true else bRW s all (i+1) (i+1)):=fun h=>by rw[b];simp only[h,↓reduceIte]
    have y: ¬all[i]=32->R=bRW s all a (i+1):=fun h=>by rw[b];simp only[h,↓reduceIte]
    have B:Hid (i < all.size):=o;clear b;clear D n d p t k v hi u
    by_cases j:all[i]=32
    ·have M:((all[i].toNat:Int)==32)=true:=by rw[j];rfl
     have b:=z j;clear j z y
     by_cases c:all.extract a i=s
     ·have A:((all.extract a i).toList==s.toList)=true:=by rw[f,decide_eq_true c]
      have g:Hid (R=true):=by rw[Hid,b,if_pos c]
      clear b c f o;go_wp2;go_ret;exact⟨bX g.o.symm,rfl⟩
     ·have A:((all.extract a i).toList==s.toList)=false:=by rw[f,decide_eq_false c]
      have g:Hid (R=bRW s all (i+1) (i+1)):=by rw[Hid,b,if_neg c]
      clear b c f o;go_wp2;go_roundg m
      case rel=>exact⟨i+1,i+1,Od,Od,Ql _,Oi l.o,Oi q.o,fun _=>g.o,fun h=>Oi B.o,rfl⟩
      case measure=>omega
    ·have M:((all[i].toNat:Int)==32)=false:=by
      rw[Bool.eq_false_iff,Ne,beq_iff_eq];intro h;exact j (UInt8.toNat_inj.mp (by show _=32;omega))
     have g:Hid (R=bRW s all a (i+1)):=y j;clear z y j f o;go_wp2;go_roundg m
     case rel=>exact⟨a,i+1,rfl,Od,Oi l.o,Oi l.o,Oi q.o,fun _=>g.o,fun h=>Oi B.o,rfl⟩
     case measure=>omega
  ·have Q: ¬(i:Int)<=(all.size:Int):=Oa
   have S:Hid (R=false):=p Oa;clear d p k;go_wp2;go_ret;exact⟨bX S.o.symm,rfl⟩
end
section
structure LS where
 ws:List Tok
 bad:Bool
 start:Nat
 mode:Int
 acc:List UInt8
 p:Nat
def LS.goes(c:LS)(r:Int):Bool:=
 if c.mode=1 then r !=10 else if c.mode=2 then oK r||kZ r else if c.mode=3 then kZ r
 else if c.mode=4 then bsB (c.acc++(Utf8.encode r).data.toList)else false
def LS.push(c:LS)(k v:Int)(t:ByteArray):LS:={c with ws:=⟨k,c.start,t,v⟩::c.ws}
def LS.fail(c:LS):LS:={c with bad:=true}
def LS.D(c:LS):LS:=
 if c.mode=2 then(if 12 < Lib.runeCount ⟨c.acc.toArray⟩then c.fail else if spB c.acc then c.push (spK c.acc) 0 (ByteArray.mk #[])else c.push 1 0 ⟨c.acc.toArray⟩)
 else if c.mode=3 then(if 999999999 < bCW c.acc then c.fail else c.push 2 (bCW c.acc) (ByteArray.mk #[]))
 else if c.mode=4 then(if spB c.acc then c.push (spK c.acc) 0 (ByteArray.mk #[])else c.fail)
 else c
def LS.N(c:LS)(r:Int):LS:=
 if aA0 r then {c with start:=c.p,mode:=0}else if r=35 then {c with start:=c.p,mode:=1}
 else if oK r then {c with start:=c.p,mode:=2}else if kZ r then {c with start:=c.p,mode:=3}
 else if bsB (Utf8.encode r).data.toList then {c with start:=c.p,mode:=4}else {c with start:=c.p,bad:=true}
structure Ch where
 r:Nat
 bs:List UInt8
def LS.step(c:LS)(x:Ch):LS:=
 if c.goes x.r then {c with acc:=c.acc++x.bs,p:=c.p+x.bs.length}else {(c.D.N x.r)with acc:=x.bs,p:=c.p+x.bs.length}
def LS.run(c:LS)(l:List Ch):LS:=l.foldl LS.step c
theorem LS.run_cons(c:LS)(x:Ch)(b:List Ch):c.run (x::b)=(c.step x).run b:=rfl
def aW0(s:ByteArray):Nat->List Ch->Prop
 |p,[]=>p=s.size
 |p,x::l=>p < s.size/\Utf8.decode s p=(x.r,x.bs.length)/\vH s p x.r=false/\(s.data.toList.take (p+x.bs.length)).drop p=x.bs/\aW0 s (p+x.bs.length) l
theorem LS.finish_bad(c:LS)(h:c.bad=true):c.D.bad=true:=by
 unfold LS.D LS.push LS.fail
 repeat' split
 all_goals simp[h]
theorem LS.begins_bad(c:LS)(r:Int)(h:c.bad=true):(c.N r).bad=true:=by
 unfold LS.N
 repeat' split
 all_goals simp[h]
theorem LS.step_bad(c:LS)(x:Ch)(h:c.bad=true):(c.step x).bad=true:=by
 unfold LS.step
 split
 ·exact h
 ·exact(c.D).begins_bad x.r (c.finish_bad h)
theorem LS.run_bad:∀ (l:List Ch) (c:LS),c.bad=true->(c.run l).bad=true
 |[],_,h=>h
 |x::l,c,h=>LS.run_bad l (c.step x) (c.step_bad x h)
theorem LS.Z(c:LS):c.D.start=c.start/\c.D.mode=c.mode/\c.D.acc=c.acc/\c.D.p=c.p:=by
 unfold LS.D LS.push LS.fail
 repeat' split
 all_goals simp
structure LsR(s:ByteArray)(c:Cut)(L:LS)(p:Nat):Prop where
 f:c.f=s
 words:c.words=L.ws.reverse
 a:c.a=0
 bad:L.bad=false
 start:c.start=L.start
 mode:c.mode=L.mode
 acc:(s.data.toList.take p).drop L.start=L.acc
 at_:L.p=p
 le:L.start<=p
variable {s:ByteArray} {c:Cut} {L:LS} {p:Nat}
theorem LsR.piece(h:LsR s c L p):c.f.extract c.start.toNat p=⟨L.acc.toArray⟩:=by
 have a:(c.f.extract c.start.toNat p).data.toList=L.acc:=by
  rw[h.f,h.start,Int.toNat_natCast,Lib.extract_data,<-h.acc,List.drop_take]
 rw[<-a]
theorem LsR.D(h:LsR s c L p)(a:L.D.bad=false):(c.D p).f=s/\(c.D p).words=L.D.ws.reverse/\(c.D p).a=0:=by
 have i:=h.piece;unfold Cut.D LS.D at*;rw[h.mode]
 by_cases e:L.mode=2
 ·rw[if_pos e,if_pos e]at*;unfold Cut.named;rw[i]
  by_cases d:12 < Lib.runeCount ⟨L.acc.toArray⟩
  ·rw[if_pos d]at a;cases a
  ·rw[if_neg d]at a ⊢;rw[if_neg d]
   by_cases b:spB L.acc=true
   ·rw[if_pos b,if_pos (show spB L.acc.toArray.toList=true by simpa using b)];exact⟨h.f,by simp[Cut.push,LS.push,h.words,h.start],h.a⟩
   ·rw[if_neg b,if_neg (show ¬spB L.acc.toArray.toList=true by simpa using b)];exact⟨h.f,by simp[Cut.push,LS.push,h.words,h.start],h.a⟩
 rw[if_neg e,if_neg e]at*
 by_cases f:L.mode=3
 ·rw[if_pos f,if_pos f]at*;unfold Cut.number;rw[i]
  by_cases d:999999999 < bCW L.acc
  ·rw[if_pos d]at a;cases a
  ·rw[if_neg d]at a ⊢;rw[if_neg (show ¬999999999 < bCW L.acc.toArray.toList by simpa using d)];exact⟨h.f,by simp[Cut.push,LS.push,h.words,h.start],h.a⟩
 rw[if_neg f,if_neg f]at*
 by_cases g:L.mode=4
 ·rw[if_pos g,if_pos g]at*;unfold Cut.sign;rw[i]
  by_cases b:spB L.acc=true
  ·rw[if_pos b,if_pos (show spB L.acc.toArray.toList=true by simpa using b)];exact⟨h.f,by simp[Cut.push,LS.push,h.words,h.start],h.a⟩
  ·rw[if_neg b]at a;cases a
 rw[if_neg g,if_neg g]at*;exact⟨h.f,h.words,h.a⟩
theorem LsR.goes(h:LsR s c L p){r:Int}(a:vH s p r=false):c.goes p r=L.goes r:=by
 unfold Cut.goes LS.goes;rw[h.mode,h.f,a,h.start,Int.toNat_natCast,h.acc];simp
theorem LsR.step(h:LsR s c L p){x:Ch}(v:vH s p x.r=false)(o:(s.data.toList.take (p+x.bs.length)).drop p=x.bs)(a:(L.step x).bad=false):LsR s (c.step p x.r) (L.step x) (p+x.bs.length):=by
 have u:=h.goes v;unfold Cut.step LS.step at*;rw[u]
 by_cases m:L.goes x.r=true
 ·rw[if_pos m,if_pos m];refine⟨h.f,h.words,h.a,h.bad,h.start,h.mode,?_,by rw[h.at_],by have:=h.le;show L.start<=_;omega⟩;show(s.data.toList.take (p+x.bs.length)).drop L.start=L.acc++x.bs
  have d:s.data.toList.take (p+x.bs.length)=s.data.toList.take p++((s.data.toList.take (p+x.bs.length)).drop p):=by
   conv=>lhs;rw[<-List.take_append_drop p (s.data.toList.take (p+x.bs.length))]
   rw[List.take_take,Nat.min_eq_left Oa]
  rw[d,o,List.drop_append,h.acc]
  congr 1
  by_cases q:x.bs=[]
  ·rw[q];simp
  ·have z:p+x.bs.length<=s.data.toList.length:=by
    have:=congrArg List.length o;rw[List.length_drop,List.length_take]at this;have y:0 < x.bs.length:=List.length_pos_iff.2 q;omega
   have r:=h.le;rw[List.length_take,Nat.min_eq_left Oa,Nat.sub_eq_zero_of_le r];rfl
 ·rw[if_neg m]at a ⊢;rw[if_neg m]
  have t:L.D.bad=false:=by
   cases e:L.D.bad with
   |false=>rfl
   |true=>exact absurd (L.D.begins_bad x.r e) (by simpa using a)
  obtain⟨f,g,f3⟩:=h.D t;obtain⟨A,B,D,w⟩:=L.Z;have b:L.D.p=p:=w.t h.at_;have i:(s.data.toList.take (p+x.bs.length)).drop p=x.bs:=o;generalize c.D p=C at*;generalize L.D=M at*;unfold Cut.N LS.N at*
  by_cases d:aA0 x.r=true
  ·rw[if_pos d]at a ⊢;rw[if_pos d];exact⟨f,g,f3,a,by show(p:Int)=(M.p:Int);rw[b],rfl,by show List.drop M.p _=_;rw[b];exact i,by show L.p+_=_;rw[h.at_],by show M.p<=_;omega⟩
  rw[if_neg d]at a ⊢;rw[if_neg d]
  by_cases j:(x.r:Int)=35
  ·rw[if_pos j]at a ⊢;rw[if_pos j];exact⟨f,g,f3,a,by show(p:Int)=(M.p:Int);rw[b],rfl,by show List.drop M.p _=_;rw[b];exact i,by show L.p+_=_;rw[h.at_],by show M.p<=_;omega⟩
  rw[if_neg j]at a ⊢;rw[if_neg j]
  by_cases k:oK x.r=true
  ·rw[if_pos k]at a ⊢;rw[if_pos k];exact⟨f,g,f3,a,by show(p:Int)=(M.p:Int);rw[b],rfl,by show List.drop M.p _=_;rw[b];exact i,by show L.p+_=_;rw[h.at_],by show M.p<=_;omega⟩
  rw[if_neg k]at a ⊢;rw[if_neg k]
  by_cases l:kZ x.r=true
  ·rw[if_pos l]at a ⊢;rw[if_pos l];exact⟨f,g,f3,a,by show(p:Int)=(M.p:Int);rw[b],rfl,by show List.drop M.p _=_;rw[b];exact i,by show L.p+_=_;rw[h.at_],by show M.p<=_;omega⟩
  rw[if_neg l]at a ⊢;rw[if_neg l]
  by_cases n:bsB (Utf8.encode x.r).data.toList=true
  ·rw[if_pos n]at a ⊢;rw[if_pos n];exact⟨f,g,f3,a,by show(p:Int)=(M.p:Int);rw[b],rfl,by show List.drop M.p _=_;rw[b];exact i,by show L.p+_=_;rw[h.at_],by show M.p<=_;omega⟩
  rw[if_neg n]at a;cases a
theorem LsR.run:∀ (l:List Ch) (n p:Nat) (c:Cut) (L:LS),LsR s c L p->aW0 s p l->l.length < n->(L.run l).D.bad=false->(c.run n p).words=(L.run l).D.ws.reverse/\(c.run n p).a=0
 |[],n+1,p,c,L,h,a,_,hb=>by
  have a:p=s.size:=a;have b:c.run (n+1) p=c.D p:=if_neg (by rw[h.f];omega);rw[b];obtain⟨_,q,f3⟩:=h.D hb;exact⟨q,f3⟩
 |x::l,n+1,p,c,L,h,a,hn,hb=>by
  obtain⟨g,d,i,j,k⟩:=a
  have r:(L.step x).bad=false:=by
   cases e:(L.step x).bad with
   |false=>rfl
   |true=>exact absurd (LS.finish_bad _ (LS.run_bad l (L.step x) e)) (by rw[LS.run_cons]at hb;simp[hb])
  have f:=h.step i j r;have m:(Utf8.decode c.f p).1=x.r:=by rw[h.f,d]
  have o:(Utf8.decode c.f p).2=x.bs.length:=by rw[h.f,d]
  have b:c.run (n+1) p=(c.step p x.r).run n (p+x.bs.length):=by
   show(if p < c.f.size then _ else _)=_;rw[if_pos (by rw[h.f];exact g),m,o,if_neg (by rw[f.a];simp)]
  rw[b];exact LsR.run l n _ _ _ f k (by simp at hn;omega) hb
end
section
variable {T:List Tok}
def WSg(T:List Tok):Tr->Nat->Nat->Prop
 | .nil,i,j=>i<=j
 | .node _ _ _ e r,i,j=>∃ k m,i<=k/\mF e=(dD T k).e/\(∀ q∈ps (lX e),q=(dD T k).e)/\Sg T (k+1) m (ps (qJ e))/\WSg T r m j
def ISg(T:List Tok)(e:Tr)(i j:Nat):Prop:=∃ b o a l r,e= .node b o a l r/\((a.a=16/\∃ k1 k2,i<=k1/\k1 < k2/\k2 < j/\a.b=(dD T k1).e/\a.e=(dD T k2).e)
 \/(a.a=17/\∃ x y z p q k1 k2 k3,r= .node x y z p q/\i<=k1/\a.b=(dD T k1).e/\Sg T (k1+1) k2 (ps l)/\WSg T (bCF p) k2 k3/\Sg T k3 j (ps q)))
def bQG(T:List Tok):Tr->Nat->Nat->Prop
 | .nil,i,j=>i<=j
 | .node _ _ _ e r,i,j=>∃ k,ISg T e i k/\bQG T r k j
theorem WSg.mono:∀ {L:Tr} {i K j:Nat},WSg T L i j->K<=i->WSg T L K j
 | .nil,_,_,_,h,h1=>Qm h1 h
 | .node _ _ _ _ _,_,_,_,⟨k,m,h1,h2⟩,h3=>⟨k,m,Qm h3 h1,h2⟩
theorem WSg.le:∀ {L:Tr} {i j:Nat},WSg T L i j->i<=j
 | .nil,_,_,h=>h
 | .node _ _ _ _ _,_,_,⟨k,m,h1,_,_,h4,h5⟩=>by
  have:=WSg.le h5;have:=h4.1;omega
theorem bZI{r:Rd}(b:(lG T r).1.a=0):∀ q∈ps (lG T r).2,q=(dD T r.b).e:=by
 unfold lG at b ⊢;dsimp only at b ⊢
 by_cases e:(cN T r [28,2,1]).d=28
 ·rw[if_pos e];intro q a;cases a
 rw[if_neg e]at b ⊢
 by_cases d:(cN T r [28,2,1]).d=2
 ·rw[if_pos d];intro q a;cases a
 rw[if_neg d]at b ⊢;obtain⟨_,_,_,f⟩:=bR b;intro q a;have a:q∈[(cN T r [28,2,1]).e]:=a
 grind
theorem bXO(e:eF T)(a:cY T){r:Rd}(f:r.b < T.length)(j:(uK T r).1.a=0):r.a=0/\mF (uK T r).2=(dD T r.b).e/\(∀ q∈ps (lX (uK T r).2),q=(dD T r.b).e)/\Sg T (r.b+1) (uK T r).1.b (ps (qJ (uK T r).2)):=by
 have b:=wH a r f;have g:=aP a b.lt (show aQ iR 0=false by decide);obtain⟨h,l,i⟩:=aQD e a _ g.lt j;obtain⟨d,m,n,o⟩:=bR h;obtain⟨k,t,u⟩:=aQD e a r f d;have:=b.ge;exact⟨k,rfl,bZI d,i.mono Oa Ol⟩
theorem bSR(i:eF T)(b:cY T):∀ n r,r.b < T.length->(bEG T (uK T) n r).1.a=0->r.a=0/\WSg T (bEG T (uK T) n r).2 r.b (bEG T (uK T) n r).1.b:=by
 intro n
 induction n with
 |zero=>intro r _ a;exact⟨a,Ql _⟩
 |succ n ih=>
  intro r j a;unfold bEG at a ⊢
  by_cases e:aN T r [18]=true
  ·rw[if_pos e]at a ⊢;have d:=dU b j (show aQ [18] 0=false by decide);have f:=uV b _ d.lt;obtain⟨g,h⟩:=ih _ f.lt a;obtain⟨k,l,m,o⟩:=bXO i b d.lt g;exact⟨pE k,_,_,uH r [18],l,m,o,h⟩
  ·rw[if_neg e]at a ⊢;exact⟨a,Ql _⟩
theorem bQ1(l:Tr):bCF (bM3 l)=l:=by cases l<;>rfl
theorem bW5(f:eF T)(d:cY T)(n:Nat){r:Rd}(k:r.b < T.length)(b:(dA T n r).1.a=0):r.a=0/\WSg T (bCF (dA T n r).2) r.b (dA T n r).1.b:=by
 unfold dA at b ⊢
 by_cases g:aN T r [5]=true
 ·rw[if_pos g]at b ⊢;have a:=dU d k (show aQ [5] 0=false by decide);have h:=uV d _ a.lt;obtain⟨i,j⟩:=bSR f d n _ h.lt b;obtain⟨l,m,o,q⟩:=bXO f d a.lt i;refine⟨pE l,?_⟩;have e:(fX T (uK T) n (r.C T [5])).2=bM3 (cons (uK T (r.C T [5])).2 (bEG T (uK T) n (uK T (r.C T [5])).1).2):=rfl;rw[e,bQ1];exact⟨_,_,uH r [5],m,o,q,j⟩
 ·rw[if_neg g]at b ⊢;exact⟨b,Ql _⟩
theorem bTX(e:eF T)(a:cY T){B:Pr}(k:Ok T 4 B)(n:Nat){r:Rd}(l:r.b < T.length)(b:(cZ T B n r).1.a=0):ISg T (cZ T B n r).2 r.b (cZ T B n r).1.b:=by
 have g:=aP a l (show aQ [1] 0=false by decide);obtain⟨o,f,q⟩:=dF a g.lt (show aQ [12] 0=false by decide);rw[mN]at b ⊢;dsimp only at b ⊢;have t:=bCX a n _ f;have d:=lC a o q t (show aQ [13] 0=false by decide);have x:=oM a n _ d.lt;obtain⟨h,A,i⟩:=k _ x.lt b;obtain⟨y,z⟩:=bW5 e a n d.lt h;obtain⟨w,H⟩:=pV y;obtain⟨u,G,v⟩:=aJK e a n _ f w;obtain⟨m,F⟩:=mR u;obtain⟨C,D,E,j⟩:=bR m;exact⟨_,_,_,_,_,rfl,.r ⟨rfl,_,_,_,_,_,r.b,_,_,rfl,Oa,by rw[j],v.mono Oa Ol,z.mono Oa,i⟩⟩
theorem bYK{r:Rd}(a:(fQ T r).1.a=0):ISg T (fQ T r).2 r.b (fQ T r).1.b:=by
 unfold fQ at a ⊢;dsimp only at a ⊢;obtain⟨e,j,k,l⟩:=bR a;obtain⟨f,m,n,g⟩:=bR e;obtain⟨h,i,b,d⟩:=bR f;exact⟨_,_,_,_,_,rfl,.l ⟨rfl,r.b,r.b+1,Oa,Oa,Oa,by rw[d],by rw[g,b]⟩⟩
theorem bQG.mono:∀ {L:Tr} {i K j:Nat},bQG T L i j->K<=i->bQG T L K j
 | .nil,_,_,_,h,h1=>Qm h1 h
 | .node _ _ _ _ _,_,_,_,⟨k,⟨b,o,a,l,r,h1,h2⟩,h3⟩,h4=>⟨k,⟨b,o,a,l,r,h1,h2.imp (fun⟨e,f,g,m,d⟩=>⟨e,f,g,Oa,d⟩) Qg⟩,h3⟩
theorem bTQ(j:eF T)(e:cY T){B:Pr}(h:aZ T B)(i:Ok T 4 B)(m:Nat):∀ n r,r.b < T.length->(aJ T B m n r).1.a=0->bQG T (aJ T B m n r).2 r.b (aJ T B m n r).1.b:=by
 intro n
 induction n with
 |zero=>intro r _ _;exact Ql _
 |succ n ih=>
  intro r q a;have g:=mB j e h i m n;unfold aJ at a ⊢;dsimp only at a ⊢
  by_cases k:aN T r [0]=true
  ·rw[if_pos k];exact Ql _
  rw[if_neg k]at a ⊢;have b:=aP e q (show aQ [3,4] 0=false by decide);have f:=b.ge
  by_cases l:(cN T r [3,4]).d=3
  ·rw[if_pos l]at a ⊢;have d:=nS e _ b.lt;have:=bQG.mono (T:=T) (L:=cons (fQ T (r.take T [3,4])).2 (aJ T B m n (fQ T (r.take T [3,4])).1).2) ⟨_,bYK (g _ d.lt a).1,ih _ d.lt a⟩ f;exact this
  rw[if_neg l]at a ⊢
  by_cases o:(cN T r [3,4]).d=4
  ·rw[if_pos o]at a ⊢;have d:=jX e h m _ b.lt;have:=bQG.mono (T:=T) (L:=cons (cZ T B m (r.take T [3,4])).2 (aJ T B m n (cZ T B m (r.take T [3,4])).1).2) ⟨_,bTX j e i m b.lt (g _ d.lt a).1,ih _ d.lt a⟩ f;exact this
  ·rw[if_neg o]at a ⊢;exact(ih _ b.lt a).mono f
theorem bUP(b:eF T)(a:cY T)(e:0 < T.length)(d:(bP T).1.a=0):bQG T (bCF (bP T).2) 0 (bP T).1.b:=by
 show bQG T (bCF (bM3 _)) 0 _;rw[bQ1];exact bTQ b a (bM1 a (bY T) 6) (pH b a (bY T) 6) (bY T) (bY T) rd0 e d
end
section
theorem bZA:∀ {L:Tr},Ws 18 L->∀ e∈aF 17 L,∃ b o a l r,e= .node b o a l r/\Ws 6 l:=by
 intro L
 induction L with
 |nil=>intro _ e d;cases d
 |node b o a x r _ ih=>
  intro j e d;obtain⟨_,f,h⟩:=aY Ot j
  by_cases g:bN x=17
  ·rw[show aF 17 (.node b o a x r)=x::aF 17 r from if_pos g]at d;rcases List.mem_cons.1 d with rfl|d
   ·have f:Ws 7 e:=f;obtain⟨b,o,a,l,r,rfl,_⟩:=iB f;obtain⟨i,_⟩:=oO f g;exact⟨_,_,_,_,_,rfl,i⟩
   ·exact ih h e d
  ·rw[show aF 17 (.node b o a x r)=aF 17 r from if_neg g]at d;exact ih h e d
theorem cAE(t:Tr)(k:Nat):mI (er t) k=mI t k:=by
 unfold mI;rw[gT,uP,List.map_map]
 congr 2
 funext e
 exact aHW e
theorem bWQ(a O:Nat)(w:World)(h:w.cell? ⟨a,1,none⟩=some (Qd O)):Calls prog 45 #[Qd a] w fun e b=>e= .returned (.bool false)/\w=b:=by
 go_enter func45,ntmps45
 go_wp2;go_ret;exact⟨rfl,rfl⟩
theorem bWW{i:Nat}{s:ByteArray}{w:World}(h:PgW i s w)(k:(fO (rdT s) s.size).a=0)(f:Ws 8 (rdT s)):∃ n:Nat,mI (rdT s) (qV (rdT s)).toNat=some n/\Calls prog 31 #[Qd i] w fun e N=>e= .returned (Qc (n:Int))/\∃ n,N=w.drewN n:=by
 obtain⟨H,g,J,O,t,D,M,B,L,d⟩:=h.ex;have u:=d.er;rw[<-u]at f k;have f:=(Ws.er t 8).1 f;rw[aHI]at k;have x:=aHM f k;obtain⟨j,v,q⟩:=x.main;obtain⟨e,m⟩:∃ e,(cR t)[j]?=some e:=⟨_,List.getElem?_eq_getElem q⟩;have p:=Qr m;obtain⟨b,o,a,l,r,rfl,K⟩:=bZA ((lM f).1.elems Ot) _ p;obtain⟨U,o',S,l',a4,a5,a6,a2,a3,Q,F,_⟩:=d.fns.own _ p;cases Q;refine⟨aD l,?_,?_⟩
 ·rw[<-u,cAE,aQ5,v,Int.toNat_natCast];unfold mI;rw[<-x.par,List.getElem?_map,show(aF 17 (bCF (dY t)))[j]?=_ from m];rfl
 obtain⟨ao,V,C⟩:=K.W Ou;have c3:=F.cells.2.2.1;rw[C]at c3;have a1:j < (cR t).length:=q;rcases d.fns.row.2 with⟨_,X⟩|⟨y,P,W,A,_,G,_,_,_,E⟩
 ·omega
 have Y:w.cell? ⟨y,j,none⟩=some (Qd b):=by
  have z:((cR t).map cB)[j]?=some (Qd b):=by rw[List.getElem?_map,m];rfl
  rw[<-E,List.getElem?_take,if_pos Oa]at z;rw[cell_of_row _ _ _ _ _ _ G,<-z];simp
 have pF:w.cell? ⟨O,2,none⟩=some (Qe y (cR t).length P):=by
  rw[cell_of_row _ _ _ _ _ _ d.prog,<-A];rfl
 have pm:w.cell? ⟨O,3,none⟩=some (Qc j):=by
  rw[cell_of_row _ _ _ _ _ _ d.prog,<-v];rfl
 have c1:w.cell? ⟨i,1,none⟩=some (Qd O):=Og L rfl
 have I:=bWQ i O w c1;have Z:0<=(j:Int)/\(j:Int) < ((cR t).length:Int):=Oa
 generalize (cR t).length=R at*;clear G E d L p K F C v f k x m u q A;go_enter func31,ntmps31
 go_wp2_with fail
 refine I.mono ?_;rintro e N ⟨rfl,rfl⟩;clear I;go_upto_region 3 with fail
 go_quiet (fail)
 go_wp2;go_ret;exact⟨rfl,_,rfl⟩
end
end Go.Proofs.YtikffmloeifkpaaGreatDoor
