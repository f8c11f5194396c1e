/- Contracts. -/
import Derived.Test.YtikffmloeifkpaaGreatDoorR04
import Derived.Deep.Onto
set_option maxHeartbeats 2000000
set_option maxRecDepth 100000
namespace Go.Proofs.YtikffmloeifkpaaGreatDoor
open Go.RowKit Go.Lib Tryz
section
theorem gN.iterAt{B b:Nat}{c:dI}{v:Value}{w:World}(h:gN B b c v w){k:Nat}{s:ByteArray}{pos:Nat}(m:w.1[k]?=some (.stringIter s pos))(j:b≠k)(f:Nat):gN B b c v (w.iterAt k s f):=by
 refine h.kept (by grind[iterAt_other]) ⟨h.own.1,?_⟩;rcases h.own.2 with i|⟨g,J,a,e,d,l,r⟩
 ·simp[*]
 ·have n:g≠k:=by
   grind
  exact Or.r ⟨g,J,a,e,d,(by grind[iterAt_other]),r⟩
theorem iC{w:World}{b:Nat}{v0 a u0 u1:Value}(h0:w.cell? ⟨b,0,none⟩=some v0)(c:w.cell? ⟨b,1,none⟩=some a):
 ((w.setCell ⟨b,0,none⟩ u0).setCell ⟨b,1,none⟩ u1).cell? ⟨b,0,none⟩=some u0/\((w.setCell ⟨b,0,none⟩ u0).setCell ⟨b,1,none⟩ u1).cell? ⟨b,1,none⟩=some u1:=by
 grind[mL]
theorem aMI{w:World}(h:Tab w):0 < w.1.size:=Qp w _ (h 0 Oa)
theorem aUC(s:ByteArray)(w:World)(c:4000 < s.size)(a:s.size<=maxLen):
 Calls prog 41 #[.string s] w fun e b=>e= .returned (.tuple #[.slice none 0 0,.agg #[Qc 1,Qc 0]])/\Below w.1.size w b:=by
 unfold maxLen at a;have d:(4000:Int) < (s.size:Int):=Oa
 go_enter func41,ntmps41
 go_wp2;refine bodyPost_ret (v:= .tuple #[.slice none 0 0,.agg #[Qc 1,Qc 0]]) (by simp[results,results41,go_sem]) rfl ⟨rfl,?_⟩;exact(Below.refl _ _).alloc Ol _
structure aJV(s:ByteArray)(w:World)(p:Nat)(c:dI)(v:Value)(wr:World):Prop where
 cut:gN (w.1.size+2) (w.1.size+1) c v wr
 iter:wr.1[w.1.size+1+1]?=some (.stringIter s p)
 o:wr.1[w.1.size]?=some (Qf #[Qc 0,Qc 0] 37)
 below:Below w.1.size w wr
 f:c.f=s
 good:c.a=0
 fine:aAO c p
 run:∃ n,s.size+1<=n+p/\eI s=c.run n p
theorem aJV.start(s:ByteArray)(w:World):aJV s w 0 ⟨s,[],0,0,0,0⟩ (.slice none 0 0)
 (((w.alloc (Qf #[Qc 0,Qc 0] 37)).alloc (Qf #[.string s,.slice none 0 0,Qc 0,Qc 0,Qc 0,Qc 0] 138)).iter s 0):=by
 have e1:(w.alloc (Qf #[Qc 0,Qc 0] 37)).1.size=w.1.size+1:=Od
 have f:((w.alloc (Qf #[Qc 0,Qc 0] 37)).alloc (Qf #[.string s,.slice none 0 0,Qc 0,Qc 0,Qc 0,Qc 0] 138)).1.size=w.1.size+1+1:=Od
 generalize d:w.alloc (Qf #[Qc 0,Qc 0] 37)=A at*;generalize e:A.alloc (Qf #[.string s,.slice none 0 0,Qc 0,Qc 0,Qc 0,Qc 0] 138)=C at*;have c:C.1[w.1.size+1]?=some (Qf #[.string s,.slice none 0 0,Qc 0,Qc 0,Qc 0,Qc 0] 138):=by grind[heap_alloc_new]
 have b:(C.iter s 0).1[w.1.size+1]?=some (Qf #[.string s,.slice none 0 0,Qc 0,Qc 0,Qc 0,Qc 0] 138):=(Below.heap_alloc C _ _ Oa).t c;have h0:∀ o,(C.iter s 0).cell? ⟨w.1.size+1,o,none⟩=(#[.string s,.slice none 0 0,Qc 0,Qc 0,Qc 0,Qc 0]:Array Value)[o]?:=(by grind[cell_of_row]);refine⟨⟨h0 0,h0 1,h0 2,h0 3,h0 4,h0 5,fun o=>?_,World.ownsRow_nil _ _ _ _,Oa⟩,?_,?_,?_,rfl,rfl,aAO.start s,⟨s.size+1,Oa,rfl⟩⟩
 ·simp[World.frozen?,b]
 ·grind[World.iter_heap]
 ·refine(Below.heap_alloc C _ _ Oa).t ?_
  grind[Below.heap_alloc,heap_alloc_new]
 ·have b1:Below w.1.size w A:=by rw[<-d];exact(Below.refl _ _).alloc Oa _
  have a:Below w.1.size w C:=by rw[<-e];exact b1.alloc Oa _
  exact a.alloc Oa _
theorem aJV.moved{s:ByteArray}{w wr:World}{p:Nat}{c:dI}{v:Value}(h:aJV s w p c v wr)(q:Nat):gN (w.1.size+2) (w.1.size+1) c v (wr.iterAt (w.1.size+1+1) s q)/\
 (wr.iterAt (w.1.size+1+1) s q).1[w.1.size+1+1]?=some (.stringIter s q)/\(wr.iterAt (w.1.size+1+1) s q).1[w.1.size]?=some (Qf #[Qc 0,Qc 0] 37)/\
 Below w.1.size w (wr.iterAt (w.1.size+1+1) s q):=
 ⟨h.cut.iterAt h.iter Oa q,iterAt_heap _ _ _ _ _ h.iter,(iterAt_other _ _ _ _ _ Oa).t h.o,below_iterAt h.below Oa _ _⟩
theorem aWL(s:ByteArray)(w:World)(I:Tab w)(hz:s.size<=4000):
 Calls prog 41 #[.string s] w fun e w'=>Below w.1.size w w'/\
  (((eI s).a≠0/\e= .returned (.tuple #[.slice none 0 0,.agg #[Qc (eI s).a,Qc (eI s).e]]))\/
   ((eI s).a=0/\∃ g J,e= .returned (.tuple #[Qe g ((eI s).words.length+1) J,.agg #[Qc 0,Qc 0]])/\
    w'.ownsRow w.1.size 143 4 (Qe g ((eI s).words.length+1) J) ((eI s).words.length+1) (dD ((eI s).words++[⟨0,s.size,ByteArray.mk #[],0⟩])))):=by
 have h0:=aMI I;have z6: ¬(4000:Int) < (s.size:Int):=Oa
 go_enter func41,ntmps41
 go_wp2;go_loopw [] (fun wr=>∃ (p:Nat) (c:dI) (v:Value),aJV s w p c v wr) (fun wr=>s.size - wr.iterPos (w.1.size+1+1))
 case atStart=>exact⟨0,_,_,aJV.start s w⟩
 case round=>
  obtain⟨p,c,v,d⟩:=hrel;have O:Tab wr:=I.below d.below h0;have b:=d.fine;have a:=d.f
  by_cases r:p < s.size
  ·have y9:=fun Z=>run_next_any_at (P:=prog) wr (w.1.size+1+1) s p Z d.iter r;obtain⟨m1,Q,m3,m4⟩:=d.moved (p+(Utf8.decode s p).2);have k6:wr.iterPos (w.1.size+1+1)=p:=by simp[World.iterPos,d.iter]
   have a9:=Lib.decode_width_pos s p r;go_wp2_with fail
   have y7:Tab (wr.iterAt (w.1.size+1+1) s (p+(Utf8.decode s p).2)):=I.below m4 h0;have a7:(wr.iterAt (w.1.size+1+1) s (p+(Utf8.decode s p).2)).iterPos (w.1.size+1+1)=p+(Utf8.decode s p).2:=by simp[World.iterPos,Q]
   clear y9;generalize wr.iterAt (w.1.size+1+1) s (p+(Utf8.decode s p).2)=W1 at*;refine(aLB _ _ c v p _ W1 m1 y7 (by rw[a];omega) (by rw[a];omega) ⟨b.lo,b.hi⟩).mono ?_;rintro e E ⟨rfl,y,K⟩;have B:=K.others.iter Q Oa;have z:=(K.below.block w.1.size Oa).t m3;have F:=m4.t (K.below.mono (Nat.le_succ _));have t2:Tab E:=I.below F h0;have W:w.1.size+2<=E.1.size:=by have:=(Oo B);omega
   have U:c.words.length<=5000:=by have:=b.count;have:=b.hi;omega
   obtain⟨n,hn,j⟩:=d.run;obtain⟨n,rfl⟩:∃ a2,n=a2+1:=⟨n - 1,Oa⟩;cases hg:c.goes p (Utf8.decode s p).1
   ·have k0:c.step p (Utf8.decode s p).1=(c.d0 p).m0 p (Utf8.decode s p).1:=by unfold dI.step;rw[hg];rfl
    go_wp2_with fail
    refine(aDN _ _ c v p E y t2 Oa W U (by rw[a];omega) (by rw[a];omega) ⟨b.lo,b.hi⟩ b.digits).mono ?_;rintro e f ⟨rfl,⟨L,x⟩,k⟩;have i3:=k.others.iter B Oa;have D:=(k.below.block w.1.size Oa).t z;have G:=F.t (k.below.mono (Nat.le_succ _));have t3:Tab f:=I.below G h0;go_wp2_with fail
    refine(aPZ _ _ _ L p _ f x t3 Oa).mono ?_;rintro e A ⟨rfl,u,V⟩;have i4:=V.others.iter i3 Oa;have R:=(V.below.block w.1.size Oa).t D;have b4:=G.t (V.below.mono (Nat.le_succ _));rw[<-k0]at u;clear K k V y x B i3 z D t2 t3 y7 O m1 Q m3 k0;have X:=u.a
    by_cases i:(c.step p (Utf8.decode s p).1).a=0
    ·have l:=aAO.step (c:=c) (p:=p) b (by rw[a];exact r) (by rw[a];exact i);rw[a]at l
     have z2:aJV s w (p+(Utf8.decode s p).2) (c.step p (Utf8.decode s p).1) L A:=by
      refine⟨u,i4,R,b4,l.2,i,l.1,n,Oa,?_⟩;rw[j];show(if p < c.f.size then _ else _)=_;rw[a,if_pos r,if_neg (by simpa using i)]
     rw[i]at X;have z7:A.iterPos (w.1.size+1+1)=p+(Utf8.decode s p).2:=by simp[World.iterPos,i4]
     clear d l j i u a b;go_wp2_with fail
     go_roundw
     case rel=>exact⟨_,_,_,z2⟩
     case measure=>rw[z7,k6];omega
    ·have g3:=u.e
     have m:Hid (eI s=c.step p (Utf8.decode s p).1):=by
      unfold Hid;rw[j];show(if p < c.f.size then _ else _)=_;rw[a,if_pos r,if_pos (by simpa using i)]
     have k2:((c.step p (Utf8.decode s p).1).a !=0)=true:=by simpa using i
     have S:A.cell? ⟨w.1.size,0,none⟩=some (Qc 0):=Og R rfl
     have T:A.cell? ⟨w.1.size,1,none⟩=some (Qc 0):=Og R rfl
     have z0:∀ o,A.frozen? ⟨w.1.size,o,none⟩=false:=fun o=>by simp[World.frozen?,R]
     have z1:=u.thawed;generalize c.step p (Utf8.decode s p).1=C at*;clear d j u a b;go_wp2_with fail
     go_region
     all_goals go_wp2
     obtain⟨x0,M⟩:=iC (w:=A) (u0:= Qc C.a) (u1:= Qc C.e) S T
     all_goals (refine bodyPost_ret (v:= .tuple #[.slice none 0 0,.agg #[Qc C.a,Qc C.e]]) (by simp[results,results41,go_sem,x0,M]) rfl ⟨?_,Or.l ⟨?_,?_⟩⟩)
     all_goals first|(rw[m.o];exact i)|(rw[m.o])|exact(Qv (Qv b4 Ol _) Ol _).drew
   ·have k0:c.step p (Utf8.decode s p).1=c:=by unfold dI.step;rw[hg];rfl
    have l:=aAO.step (c:=c) (p:=p) b (by rw[a];exact r) (by rw[a,k0];exact d.good);rw[a,k0]at l
    have z2:aJV s w (p+(Utf8.decode s p).2) c v E:=by
     refine⟨y,B,z,F,a,d.good,l.1,n,Oa,?_⟩;rw[j];show(if p < c.f.size then _ else _)=_;rw[a,if_pos r,k0,if_neg (by simpa using d.good)]
    have y8:E.iterPos (w.1.size+1+1)=p+(Utf8.decode s p).2:=by simp[World.iterPos,B]
    clear d l j y a b K B z t2 y7 O m1 Q m3 k0;go_wp2_with fail
    go_roundw
    case rel=>exact⟨_,_,_,z2⟩
    case measure=>rw[y8,k6];omega
  ·have y8:p=s.size:=by have:=b.le;rw[a]at this;omega
   subst y8;have y9:=fun Z=>run_next_end_at (P:=prog) wr (w.1.size+1+1) s s.size Z d.iter Oa;have y:=d.cut;have z:=d.o;have F:=d.below;have W:w.1.size+2<=wr.1.size:=by have:=(Oo d.iter);omega
   have U:c.words.length<=5000:=by have:=b.count;have:=b.hi;omega
   obtain⟨n,hn,j⟩:=d.run;obtain⟨n,rfl⟩:∃ a2,n=a2+1:=⟨n - 1,Oa⟩
   have m:Hid (eI s=c.d0 s.size):=by
    unfold Hid;rw[j];show(if s.size < c.f.size then _ else _)=_;rw[a,Oh]
   go_wp2_with fail
   clear y9;refine(aDN _ _ c v s.size wr y O Oa W U (by rw[a];omega) (by rw[a];omega) ⟨b.lo,b.hi⟩ b.digits).mono ?_;rintro e f ⟨rfl,⟨L,x⟩,k⟩;have D:=(k.below.block w.1.size Oa).t z;have G:=F.t (k.below.mono (Nat.le_succ _));have a4:w.1.size+2<=f.1.size:=Qm W k.below.size
   have a8:(c.d0 s.size).words.length<=5000:=by
    have:=b.count;have:=b.hi;rcases(c.z0 s.size).2.2.2 with h|⟨_,h⟩<;>omega
   clear d k y z O j a b U;have X:=x.a;have g3:=x.e;have S:f.cell? ⟨w.1.size,0,none⟩=some (Qc 0):=Og D rfl
   have T:f.cell? ⟨w.1.size,1,none⟩=some (Qc 0):=Og D rfl
   have z0:∀ o,f.frozen? ⟨w.1.size,o,none⟩=false:=fun o=>by simp[World.frozen?,D]
   by_cases i:(c.d0 s.size).a=0
   ·rw[i]at X;obtain⟨i0,z8,z5,z4,z3⟩:=info_parts info143;have Y:=x.own;have q:w.1.size < f.1.size:=Oa
    have p1:=x.wordsAt;have N:some w.1.size≠L.ownBlock:=fun e=>by have:=(Y.lt _ e.symm).1;omega
    have b2:=hz;clear z6;generalize c.d0 s.size=C at*;go_wp2_with (at_builtin;refine wpList_append_lies _ rfl _ _ 85 rfl (w.1.size+2) 143 i0 _ 4 40 underlying85 z8 z5 z4 z3 rfl Oa L C.words.length (dD C.words) rfl (Y.alloc _) ⟨f.1.size,0,none⟩ 1 1 (aU.cells ⟨0,s.size,ByteArray.mk #[],0⟩) rfl rfl (World.news_of_block (cs:=#[Qc 0,Qc s.size,.string (ByteArray.mk #[]),Qc 0]) (t:=143) (fr:=(0,0)) (Qk f _)) (by simp[aU.cells,Value.oneCell']) Oa (by unfold maxLen;omega) Oa (by simp;omega) (f.1.size+1) Od ?_;intro gg J w1 k7 k1 a5 a6;have H:=aDG k1;have y0:=(H.cell_far ⟨w.1.size,0,none⟩ (gK q) N).t (lT q S);have y1:=(H.cell_far ⟨w.1.size,1,none⟩ (gK q) N).t (lT q T);have y2:=(H.frozen_far ⟨w.1.size,0,none⟩ (gK q) N).t (rO q (z0 0));have y3:=(H.frozen_far ⟨w.1.size,1,none⟩ (gK q) N).t (rO q (z0 1)))
    obtain⟨x0,M⟩:=iC (u0:= Qc 0) (u1:= Qc 0) y0 y1;refine bodyPost_ret (v:= .tuple #[Qe gg (C.words.length+1) J,.agg #[Qc 0,Qc 0]]) (by simp[results,results41,go_sem,x0,M]) rfl ⟨?_,Or.r ⟨?_,gg,J,?_,?_⟩⟩
    ·refine Qv (Qv (Below.grown (G.alloc Oa _).drew H (by show _<=(f.alloc _).1.size;simp;omega) (fun a3 hk=>?_)) Ol _) Ol _;have:=(Y.lt a3 hk).1;omega
    ·rw[m.o];exact i
    ·rw[m.o]
    ·rw[m.o,uZ];exact World.ownsRow.mono (ownsRow_setCell_below (ownsRow_setCell_below k7 (by show w.1.size < _;omega) _) (by show w.1.size < _;omega) _) Oa
   ·have k2:((c.d0 s.size).a !=0)=true:=by simpa using i
    generalize c.d0 s.size=C at*;go_wp2_with fail
    go_region
    all_goals go_wp2
    obtain⟨x0,M⟩:=iC (w:=f) (u0:= Qc C.a) (u1:= Qc C.e) S T
    all_goals (refine bodyPost_ret (v:= .tuple #[.slice none 0 0,.agg #[Qc C.a,Qc C.e]]) (by simp[results,results41,go_sem,x0,M]) rfl ⟨?_,Or.l ⟨?_,?_⟩⟩)
    all_goals first|(rw[m.o];exact i)|(rw[m.o])|exact(Qv (Qv G Ol _) Ol _).drew
structure Ex(b:Nat)(w w':World):Prop where
 os:w'.os=w.os
 tape:w'.tape=w.tape
 output:w'.output=w.output
 size:w.1.size<=w'.1.size
 block:∀ k,k < w.1.size->k≠b->w'.1[k]?=w.1[k]?
theorem Ex.refl(b:Nat)(w:World):Ex b w w:=⟨rfl,rfl,rfl,Oa,Od⟩
theorem Ex.t{b:Nat}{u v w:World}(h:Ex b u v)(k:Ex b v w):Ex b u w:=
 ⟨k.os.t h.os,k.tape.t h.tape,k.output.t h.output,Qm h.size k.size,fun i hi a=>(k.block i (Nat.lt_of_lt_of_le hi h.size) a).t (h.block i hi a)⟩
theorem Ex.alloc{b:Nat}{u w:World}(h:Ex b u w)(o:Obj):Ex b u (w.alloc o):=
 h.t ⟨rfl,rfl,rfl,Od,(by grind[Below.heap_alloc])⟩
theorem Ex.drew{b:Nat}{u w:World}(h:Ex b u w):Ex b u w.drew:=⟨h.os,h.tape,h.output,h.size,h.block⟩
theorem Ex.drewN{b:Nat}{u w:World}(h:Ex b u w)(n:Nat):Ex b u (w.drewN n):=⟨h.os,h.tape,h.output,h.size,h.block⟩
theorem Ex.set{b:Nat}{u w:World}(h:Ex b u w)(o:Nat)(v:Value):Ex b u (w.setCell ⟨b,o,none⟩ v):=
 h.t ⟨rfl,rfl,rfl,Od,(by grind[Below.heap_setCell])⟩
theorem Ex.j0{b:Nat}{u w:World}(h:Ex b u w){k:Nat}(c:u.1.size<=k)(o:Nat)(v:Value):Ex b u (w.setCell ⟨k,o,none⟩ v):=
 ⟨h.os,h.tape,h.output,Qm h.size Od,fun i hi a=>(Om (by show i≠k;omega)).t (h.block i hi a)⟩
theorem Ex.of_below{b:Nat}{w w':World}(h:Below w.1.size w w'):Ex b w w':=⟨h.os,h.tape,h.output,h.size,fun k a _=>h.block k a⟩
theorem Ex.grown{b:Nat}{u w w':World}{d:Option Nat}(h:Ex b u w)(a:w.grownBy w' d)(f:∀ k,d=some k->u.1.size<=k):Ex b u w':=
 ⟨a.os.t h.os,a.tape.t h.tape,a.output.t h.output,Qm h.size a.size,fun k c e=>(a.block k (Nat.lt_of_lt_of_le c h.size) Qg).t (h.block k c e)⟩
theorem Ex.below{b:Nat}{w w':World}(h:Ex b w w')(c:w.1.size<=b):Below w.1.size w w':=⟨h.os,h.tape,h.output,h.size,fun k a=>h.block k a Oa⟩
def aU.g(t:aU):Value:= .agg #[Qc t.d,Qc t.e,.string t.f,Qc t.a]
def uE:aU:=⟨0,0,ByteArray.mk #[],0⟩
structure Rd where
 b:Nat
 c:Int
 a:Int
 e:Int
def aC5(n g J:Nat)(r:Rd):Array Value:=#[Qe g n J,Qc r.b,Qc r.c,Qc r.a,Qc r.e]
structure eK(T:List aU)(g J b:Nat)(r:Rd)(w:World):Prop where
 blk:w.1[b]?=some (.cells (aC5 T.length g J r) 145 (0,0))
 row:∃ cur,w.1[g]?=some (.cells cur 143 (0,0))/\cur.toList.take (T.length*4)=dD T
 cap_:T.length<=J
 few:T.length<=5000
 lt:r.b < T.length
 last:(T.getD (T.length - 1) uE).d=0
 vals:∀ t∈T,0<=t.a/\t.a<=999999999
variable {T:List aU} {g J b:Nat} {r:Rd} {w w':World}
theorem eK.cell(h:eK T g J b r w)(o:Nat):w.cell? ⟨b,o,none⟩=(aC5 T.length g J r)[o]?:=cell_of_row _ _ _ _ _ _ h.blk
theorem eK.froz(h:eK T g J b r w)(o:Nat):w.frozen? ⟨b,o,none⟩=false:=by simp[World.frozen?,h.blk]
theorem eK.size(h:eK T g J b r w):b < w.1.size:=(Oo h.blk)
theorem eK.gsize(h:eK T g J b r w):g < w.1.size:=by obtain⟨a,c,_⟩:=h.row;grind
theorem eK.ne(h:eK T g J b r w):g≠b:=by
 obtain⟨c,a,_⟩:=h.row;intro e;rw[e,h.blk]at a;cases a
theorem eK.c0(h:eK T g J b r w):w.cell? ⟨b,0,none⟩=some (Qe g T.length J):=h.cell 0
theorem eK.c1(h:eK T g J b r w):w.cell? ⟨b,1,none⟩=some (Qc r.b):=h.cell 1
theorem eK.c2(h:eK T g J b r w):w.cell? ⟨b,2,none⟩=some (Qc r.c):=h.cell 2
theorem eK.c3(h:eK T g J b r w):w.cell? ⟨b,3,none⟩=some (Qc r.a):=h.cell 3
theorem eK.c4(h:eK T g J b r w):w.cell? ⟨b,4,none⟩=some (Qc r.e):=h.cell 4
theorem aI{b o:Nat}{cs:Array Value}{t:TypeId}(v:Value)(h:w.1[b]?=some (.cells cs t (0,0))):(w.setCell ⟨b,o,none⟩ v).1[b]?=some (.cells (cs.setIfInBounds o v) t (0,0)):=by
 grind[World.setCell]
theorem eK.write(h:eK T g J b r w)(o:Nat)(v:Value){a:Rd}(f:(aC5 T.length g J r).setIfInBounds o v=aC5 T.length g J a)(e:a.b < T.length):eK T g J b a (w.setCell ⟨b,o,none⟩ v):=by
 refine⟨by rw[aI v h.blk,f],?_,h.cap_,h.few,e,h.last,h.vals⟩;obtain⟨c,d,i⟩:=h.row;exact⟨c,(Om h.ne).t d,i⟩
theorem eK.setNext(h:eK T g J b r w)(m:Nat)(a:m < T.length):eK T g J b {r with b:=m} (w.setCell ⟨b,1,none⟩ (Qc m)):=h.write 1 _ rfl a
theorem eK.setNest(h:eK T g J b r w)(m:Int):eK T g J b {r with c:=m} (w.setCell ⟨b,2,none⟩ (Qc m)):=h.write 2 _ rfl h.lt
theorem eK.setCode(h:eK T g J b r w)(m:Int):eK T g J b {r with a:=m} (w.setCell ⟨b,3,none⟩ (Qc m)):=h.write 3 _ rfl h.lt
theorem eK.setPos(h:eK T g J b r w)(m:Int):eK T g J b {r with e:=m} (w.setCell ⟨b,4,none⟩ (Qc m)):=h.write 4 _ rfl h.lt
theorem eK.move(h:eK T g J b r w)(a:w'.1[b]?=w.1[b]?)(e:w'.1[g]?=w.1[g]?):eK T g J b r w':=by
 obtain⟨c,d,f⟩:=h.row;exact⟨a.t h.blk,Qh,h.cap_,h.few,h.lt,h.last,h.vals⟩
theorem eK.setOther(h:eK T g J b r w){k:Nat}(a:k≠b)(c:k≠g)(o:Nat)(v:Value):eK T g J b r (w.setCell ⟨k,o,none⟩ v):=
 h.move (by grind[Below.heap_setCell]) (by grind[Below.heap_setCell])
theorem eK.alloc(h:eK T g J b r w)(o:Obj):eK T g J b r (w.alloc o):=h.move (On h.size) (On h.gsize)
theorem eK.drew(h:eK T g J b r w):eK T g J b r w.drew:=h.move rfl rfl
theorem eK.drewN(h:eK T g J b r w)(n:Nat):eK T g J b r (w.drewN n):=h.move rfl rfl
theorem eK.below(h:eK T g J b r w)(a:Below w.1.size w w'):eK T g J b r w':=h.move (a.block b h.size) (a.block g h.gsize)
theorem sY(l:List aU):∀ i t,l[i]?=some t->∀ j,j < 4->(dD l)[i*4+j]?=t.cells[j]?:=by
 induction l with
 |nil=>simp
 |cons x l ih=>
  intro i t h j a;have d:(dD (x::l))=x.cells++dD l:=rfl;have c:x.cells.length=4:=rfl
  grind
theorem eK.tok(h:eK T g J b r w){i:Nat}{t:aU}(e:T[i]?=some t)(j:Nat)(d:j < 4):w.cell? ⟨g,i*4+j,none⟩=t.cells[j]?:=by
 obtain⟨f,c,h0⟩:=h.row;have hi:i < T.length:=Qg;have a:=sY T i t e j d;rw[<-h0,List.getElem?_take,if_pos Oa]at a;rw[cell_of_row _ _ _ _ _ _ c,<-a];simp
def aE(T:List aU)(i:Nat):aU:=T.getD i uE
theorem lN{i:Nat}(h:i < T.length):T[i]?=some (aE T i):=by
 grind[aE]
theorem eK.tok0(h:eK T g J b r w):w.cell? ⟨g,r.b*4,none⟩=some (Qc (aE T r.b).d):=h.tok (lN h.lt) 0 Oa
theorem eK.tok1(h:eK T g J b r w):w.cell? ⟨g,r.b*4+1,none⟩=some (Qc (aE T r.b).e):=h.tok (lN h.lt) 1 Oa
theorem eK.tok2(h:eK T g J b r w):w.cell? ⟨g,r.b*4+2,none⟩=some (.string (aE T r.b).f):=h.tok (lN h.lt) 2 Oa
theorem eK.tok3(h:eK T g J b r w):w.cell? ⟨g,r.b*4+3,none⟩=some (Qc (aE T r.b).a):=h.tok (lN h.lt) 3 Oa
def nS(w:World)(k:Nat)(Y:List Int):Prop:=∀ i,i < Y.length->w.cell? ⟨k,i,none⟩=some (Qc (Y.getD i 0))
def aM(Y:List Int)(v:Int):Bool:=Y.contains v
def Idx(Y:List Int)(v n:Int):Prop:=decide (0<=n)=aM Y v
theorem Idx.yes{Y:List Int}{v:Int}{n:Nat}(a:n < Y.length)(h:Y.getD n 0=v):Idx Y v n:=by
 grind[Idx,aM]
theorem Idx.no{Y:List Int}{v:Int}(h:∀ j,j < Y.length->Y.getD j 0≠v):Idx Y v (-1):=by
 grind[Idx,aM,List.getElem_of_mem,List.getElem?_eq_getElem,List.contains_iff_mem]
theorem aQ6(k o:Nat)(Y:List Int)(v:Int)(w:World)(h:nS w k Y)(t:Y.length<=100):
 Calls prog 241 #[Qe k Y.length o,Qc v] w fun e w'=>(∃ n:Int,e= .returned (Qc n)/\Idx Y v n)/\w=w':=by
 go_enter func241,ntmps241
 go_wp2;go_loop [8] (fun i=>∃ n:Nat,n<=Y.length/\i= Qc n/\∀ j,j < n->Y.getD j 0≠v) (fun i=>Y.length - (RowKit.intOf i).toNat)
 case atStart=>exact⟨0,Oa,rfl,fun j q=>Oa⟩
 case round=>
  obtain⟨n,u,rfl,h0⟩:=hrel;have c:Hid (∀ j,j < n->Y.getD j 0≠v):=h0;clear h0
  by_cases l:n < Y.length
  ·have p:=h n l;generalize m:Y.getD n 0=x at p;have d:Hid (Y.getD n 0=x):=m;clear m
   by_cases a:v=x
   ·subst a;go_wp2;go_ret;exact⟨⟨n,rfl,Idx.yes l d.o⟩,rfl⟩
   ·have s:(v==x)=false:=by simpa using a
    go_wp2;go_round
    case rel=>exact⟨n+1,Oa,by go_num,fun j q=>by
     rcases Qt j n with f|f;exact c.o j f;obtain rfl:j=n:=Oa
     rw[d.o];exact fun e=>a e.symm⟩
    case measure=>simp[RowKit.intOf];omega
  ·have:n=Y.length:=Oa
   subst this;go_wp2;go_ret;exact⟨⟨-1,rfl,Idx.no c.o⟩,rfl⟩
theorem aHG(k a:Nat)(Y:List Int)(v:Int)(w:World)(h:nS w k Y)(f:Y.length<=100):
 Calls prog 183 #[Qe k Y.length a,Qc v] w fun e w'=>e= .returned (.bool (aM Y v))/\w=w':=by
 go_enter func183,ntmps183
 go_wp2_with fail
 refine(aQ6 k a Y v w h f).mono ?_;rintro e w' ⟨⟨n,rfl,c⟩,rfl⟩;have d:Hid (decide (0<=n)=aM Y v):=c;clear c;go_wp2;go_ret;exact⟨gG d.o,rfl⟩
def aF(T:List aU)(r:Rd)(Y:List Int):Bool:=aM Y (aE T r.b).d
theorem jO(T:List aU)(g J b:Nat)(r:Rd)(k a:Nat)(Y:List Int)(w:World)(h:eK T g J b r w)(d:nS w k Y)(f:Y.length<=100):
 Calls prog 123 #[Qd b,Qe k Y.length a] w fun e w'=>e= .returned (.bool (aF T r Y))/\∃ n,w'=w.drewN n:=by
 have c0:=h.c0;have c1:=h.c1;have t0:=h.tok0;have l:(r.b:Int) < (T.length:Int):=by have:=h.lt;omega
 have j:(T.length:Int)<=5000:=by have:=h.few;omega
 have h0:∀ n,nS (w.drewN n) k Y:=fun n i hi=>d i hi;go_enter func123,ntmps123
 go_wp2;go_quiet ((go_at_call 183;exact Calls.quiet_of_same ((aHG k a Y _ _ (h0 _) f).mono fun _ _ c=>⟨c.1,c.2.symm⟩)))
 go_wp2;go_ret;exact⟨rfl,_,rfl⟩
def Rd.fail(n:Nat)(r:Rd)(c p:Int):Rd:=if r.a=0 then⟨n - 1,r.c,c,p⟩else⟨n - 1,r.c,r.a,r.e⟩
def Rd.step(r:Rd):Rd:=⟨r.b+1,r.c,r.a,r.e⟩
def Rd.take(T:List aU)(r:Rd)(Y:List Int):Rd:=if aF T r Y then r.step else r.fail T.length 2 (aE T r.b).e
def bX(T:List aU)(r:Rd)(Y:List Int):aU:=if aF T r Y then aE T r.b else uE
def Rd.b0(T:List aU)(r:Rd)(Y:List Int):Rd:=if aF T r Y then r.step else r
def Rd.l0(n:Nat)(r:Rd)(p:Int):Rd:=if 10 < r.c+1 then Rd.fail n ⟨r.b,r.c+1,r.a,r.e⟩ 6 p else⟨r.b,r.c+1,r.a,r.e⟩
theorem eK.stepped(h:eK T g J b r w){Y:List Int}(a:aF T r Y=true)(h0:aM Y 0=false):r.b+1 < T.length:=by
 have d:=h.lt;rcases Qt (r.b+1) T.length with c|c
 ·exact c
 ·exfalso;have e:r.b=T.length - 1:=Oa
  unfold aF aE at a;rw[e,h.last,h0]at a;cases a
theorem aFT(T:List aU)(g J b:Nat)(r:Rd)(c p:Int)(w:World)(h:eK T g J b r w):
 Calls prog 184 #[Qd b,Qc c,Qc p] w fun e w'=>e= .returned (.tuple #[])/\eK T g J b (r.fail T.length c p) w'/\Ex b w w':=by
 have c0:=h.c0;have c1:=h.c1;have c3:=h.c3;have c4:=h.c4;have f1:=h.froz 1;have f3:=h.froz 3;have j:=h.froz 4;have l:(r.b:Int) < (T.length:Int):=by have:=h.lt;omega
 have k:(T.length:Int)<=5000:=by have:=h.few;omega
 have h0:((T.length - 1:Nat):Int)=(T.length:Int) - 1:=by have:=h.lt;omega
 have i:Hid (((T.length - 1:Nat):Int)=(T.length:Int) - 1):=h0;clear h0
 by_cases a:r.a=0
 ·have f:=((h.setCode c).setPos p).setNext (T.length - 1) (Oi h.lt);rw[i.o]at f;rw[a]at c3;have d:r.fail T.length c p=⟨T.length - 1,r.c,c,p⟩:=if_pos a;rw[d];clear d a;go_enter func184,ntmps184
  go_wp2;go_end0
  exact⟨rfl,f,(((Ex.refl b w).set 3 _).set 4 _).set 1 _⟩
 ·have f:=h.setNext (T.length - 1) (Oi h.lt);rw[i.o]at f;have d:r.fail T.length c p=⟨T.length - 1,r.c,r.a,r.e⟩:=if_neg a;rw[d];have m:(r.a==0)=false:=by simpa using a
  clear d a;go_enter func184,ntmps184
  go_wp2;go_end0
  exact⟨rfl,f,(Ex.refl b w).set 1 _⟩
theorem oT(T:List aU)(g J b:Nat)(r:Rd)(k d:Nat)(Y:List Int)(w:World)(h:eK T g J b r w)(j:nS w k Y)(l:Y.length<=100)(h0:aM Y 0=false):
 Calls prog 189 #[Qd b,Qe k Y.length d] w fun e w'=>e= .returned (.bool (aF T r Y))/\eK T g J b (r.b0 T Y) w'/\Ex b w w':=by
 have m:(T.length:Int)<=5000:=by have:=h.few;omega
 have o:(r.b:Int) < (T.length:Int):=by have:=h.lt;omega
 go_enter func189,ntmps189
 go_wp2_with fail
 refine(jO T g J b r k d Y w h j l).mono ?_;rintro e w' ⟨rfl,n,rfl⟩;have a:=h.drewN n;have f:=(Ex.refl b w).drewN n;generalize w.drewN n=W at*;have c1:=a.c1;have f1:=a.froz 1;cases hs:aF T r Y
 ·have c:Hid (r.b0 T Y=r):=by unfold Hid Rd.b0;rw[hs];rfl
  go_wp2;go_ret;exact⟨gG hs.symm,by rw[c.o];exact a,f⟩
 ·have c:Hid (r.b0 T Y=r.step):=by unfold Hid Rd.b0;rw[hs];rfl
  have i:=a.setNext (r.b+1) (h.stepped hs h0);rw[Int.natCast_succ]at i;go_wp2;go_ret;exact⟨gG hs.symm,by rw[c.o];exact i,f.set 1 _⟩
theorem aU.val_eq(t:aU):t.g= .agg #[Qc t.d,Qc t.e,.string t.f,Qc t.a]:=rfl
theorem nS.alloc{k:Nat}{Y:List Int}(h:nS w k Y)(o:Obj):nS (w.alloc o) k Y:=fun i hi=>by
 have a:=h i hi;rw[World.cell?_alloc_past _ _ _ (Qp w _ a)];exact a
theorem nS.ex{k:Nat}{Y:List Int}(h:nS w k Y)(d:Ex b w w')(c:k≠b):nS w' k Y:=fun i hi=>by
 have a:=h i hi;exact(Qo (d.block k (Qp w _ a) c)).t a
def aZH(a p v:Int)(x:ByteArray):Array Value:=#[Qc a,Qc p,.string x,Qc v]
theorem bK{k:Nat}{a p v:Int}{x:ByteArray}{t:TypeId}(h:w.1[k]?=some (.cells (aZH a p v x) t (0,0))):
 w.cell? ⟨k,0,none⟩=some (Qc a)/\w.cell? ⟨k,1,none⟩=some (Qc p)/\w.cell? ⟨k,2,none⟩=some (.string x)/\w.cell? ⟨k,3,none⟩=some (Qc v)/\(∀ o,w.frozen? ⟨k,o,none⟩=false):=
 ⟨cell_of_row _ _ _ _ _ _ h,cell_of_row _ _ _ _ _ _ h,cell_of_row _ _ _ _ _ _ h,cell_of_row _ _ _ _ _ _ h,(by grind[World.frozen?])⟩
theorem tV{k:Nat}{v0 a c d u0 u1 u2 u3:Value}(h0:w.cell? ⟨k,0,none⟩=some v0)(e:w.cell? ⟨k,1,none⟩=some a)(f:w.cell? ⟨k,2,none⟩=some c)(h:w.cell? ⟨k,3,none⟩=some d):
 let W:=(((w.setCell ⟨k,0,none⟩ u0).setCell ⟨k,1,none⟩ u1).setCell ⟨k,2,none⟩ u2).setCell ⟨k,3,none⟩ u3
 W.cell? ⟨k,0,none⟩=some u0/\W.cell? ⟨k,1,none⟩=some u1/\W.cell? ⟨k,2,none⟩=some u2/\W.cell? ⟨k,3,none⟩=some u3:=by
 grind[mL]
theorem iY(T:List aU)(g J b:Nat)(r:Rd)(k A:Nat)(Y:List Int)(w:World)(h:eK T g J b r w)(Q:nS w k Y)(R:Y.length<=100)(h0:aM Y 0=false):
 Calls prog 124 #[Qd b,Qe k Y.length A] w fun e w'=>e= .returned (bX T r Y).g/\eK T g J b (r.take T Y) w'/\Ex b w w':=by
 have c0:=h.c0;have c1:=h.c1;have t0:=h.tok0;have Z:=h.tok1;have t2:=h.tok2;have t3:=h.tok3;have a8:=h.gsize;have a6:=h.size;have a7:(T.length:Int)<=5000:=by have:=h.few;omega
 have a9:(r.b:Int) < (T.length:Int):=by have:=h.lt;omega
 generalize j:aE T r.b=t at*;have j:Hid (aE T r.b=t):=j;go_enter func124,ntmps124
 go_wp2;go_region
 go_wp2_with fail
 have l:=((h.alloc (Qf #[Qc 0,Qc 0,.string (ByteArray.mk #[]),Qc 0] 143)).alloc (Qf #[Qc t.d,Qc t.e,.string t.f,Qc t.a] 143)).drew;have C:nS _ k Y:=(Q.alloc (Qf #[Qc 0,Qc 0,.string (ByteArray.mk #[]),Qc 0] 143)).alloc (Qf #[Qc t.d,Qc t.e,.string t.f,Qc t.a] 143);have G:=(((Ex.refl b w).alloc (Qf #[Qc 0,Qc 0,.string (ByteArray.mk #[]),Qc 0] 143)).alloc (Qf #[Qc t.d,Qc t.e,.string t.f,Qc t.a] 143)).drew;refine(jO T g J b r k A Y _ l C R).mono ?_;rintro e w' ⟨rfl,n,rfl⟩;have i:=l.drewN n;have F:=G.drewN n;have cP:(w.alloc (Qf #[Qc 0,Qc 0,.string (ByteArray.mk #[]),Qc 0] 143)).1.size=w.1.size+1:=Od
 have f:(((w.alloc (Qf #[Qc 0,Qc 0,.string (ByteArray.mk #[]),Qc 0] 143)).alloc (Qf #[Qc t.d,Qc t.e,.string t.f,Qc t.a] 143)).drew.drewN n).1[w.1.size]?=some (Qf #[Qc 0,Qc 0,.string (ByteArray.mk #[]),Qc 0] 143):=
  (On (by rw[cP];omega)).t (Qk w _)
 have m:(((w.alloc (Qf #[Qc 0,Qc 0,.string (ByteArray.mk #[]),Qc 0] 143)).alloc (Qf #[Qc t.d,Qc t.e,.string t.f,Qc t.a] 143)).drew.drewN n).1[w.1.size+1]?=some (Qf #[Qc t.d,Qc t.e,.string t.f,Qc t.a] 143):=by
  have:=Qk (w.alloc (Qf #[Qc 0,Qc 0,.string (ByteArray.mk #[]),Qc 0] 143)) (Qf #[Qc t.d,Qc t.e,.string t.f,Qc t.a] 143);rw[cP]at this;exact this
 clear l C G cP c0 c1 t0 Z t2 t3;generalize (((w.alloc (Qf #[Qc 0,Qc 0,.string (ByteArray.mk #[]),Qc 0] 143)).alloc (Qf #[Qc t.d,Qc t.e,.string t.f,Qc t.a] 143)).drew.drewN n)=W at*;have c1:=i.c1;have f1:=i.froz 1;obtain⟨z0,M,N,O,P⟩:=bK f;obtain⟨l0,H,I,K,L⟩:=bK m;have a:w.1.size≠b:=Oa
 have d:w.1.size≠g:=Oa
 cases hs:aF T r Y
 ·have p:Hid (r.take T Y=r.fail T.length 2 t.e):=by unfold Hid Rd.take;rw[hs,j.o];rfl
  have o:Hid (bX T r Y=uE):=by unfold Hid bX;rw[hs];rfl
  go_wp2_with fail
  refine(aFT T g J b r _ _ W i).mono ?_;rintro e w2 ⟨rfl,U,D⟩;have S:=(D.block w.1.size (Oo f) a).t f;obtain⟨y0,x,y,z,c⟩:=bK S;clear z0 M N O P l0 H I K L;have a2:=c 0;have a3:=c 1;have a4:=c 2;have a5:=c 3;obtain⟨x0,q,s,u⟩:=tV (u0:= Qc 0) (u1:= Qc 0) (u2:= .string (ByteArray.mk #[])) (u3:= Qc 0) y0 x y z;go_wp2;refine bodyPost_ret (v:=uE.g) (by simp[results,results124,go_sem,x0,q,s,u,uE,aU.g]) rfl ⟨by rw[o.o],?_,?_⟩
  ·rw[p.o];exact(((U.setOther a d 0 _).setOther a d 1 _).setOther a d 2 _).setOther a d 3 _
  ·exact(((((F.t D).j0 Ol 0 _).j0 Ol 1 _).j0 Ol 2 _).j0 Ol 3 _)
 ·have p:Hid (r.take T Y=r.step):=by unfold Hid Rd.take;rw[hs];rfl
  have o:Hid (bX T r Y=t):=by unfold Hid bX;rw[hs,j.o];rfl
  have E:=i.setNext (r.b+1) (h.stepped hs h0);rw[Int.natCast_succ]at E;have g0:(W.setCell ⟨b,1,none⟩ (Qc (↑r.b+1))).1[w.1.size]?=_:=(Om a).t f;obtain⟨y0,x,y,z,c⟩:=bK g0;have a2:=c 0;have a3:=c 1;have a4:=c 2;have a5:=c 3;have V:w.1.size+1≠b:=Oa
  have B:(W.setCell ⟨b,1,none⟩ (Qc (↑r.b+1))).1[w.1.size+1]?=_:=(Om V).t m;obtain⟨k0,k1,k2,k3,X⟩:=bK B;obtain⟨x0,q,s,u⟩:=tV (u0:= Qc t.d) (u1:= Qc t.e) (u2:= .string t.f) (u3:= Qc t.a) y0 x y z;clear g0 B z0 M N O P l0 H I K L c X f m;go_wp2;refine bodyPost_ret (v:=t.g) (by simp[results,results124,go_sem,x0,q,s,u,aU.g]) rfl ⟨by rw[o.o],?_,?_⟩
  ·rw[p.o];exact(((E.setOther a d 0 _).setOther a d 1 _).setOther a d 2 _).setOther a d 3 _
  ·exact(((((F.set 1 _).j0 Ol 0 _).j0 Ol 1 _).j0 Ol 2 _).j0 Ol 3 _)
end
section
variable {T:List aU} {g J b:Nat} {r:Rd} {w w':World}
theorem cA(w:World)(Y:List Int)(cs:Array Value)(h:cs.toList=Y.map (Value.int .i64)):nS (w.alloc (.cells cs 141)) w.1.size Y:=fun i hi=>by
 rw[World.cell?_alloc_new];have a:cs[i]?=cs.toList[i]?:=Od
 simp[*]
theorem sM{k:Nat}{a p x:Value}{t:TypeId}(h:w.1[k]?=some (Qf #[a,p,x] t)):
 w.cell? ⟨k,0,none⟩=some a/\w.cell? ⟨k,1,none⟩=some p/\w.cell? ⟨k,2,none⟩=some x/\(∀ o,w.frozen? ⟨k,o,none⟩=false):=
 ⟨cell_of_row _ _ _ _ _ _ h,cell_of_row _ _ _ _ _ _ h,cell_of_row _ _ _ _ _ _ h,(by grind[World.frozen?])⟩
theorem aNW{k:Nat}{v0 a c u0 u1 u2:Value}(h0:w.cell? ⟨k,0,none⟩=some v0)(d:w.cell? ⟨k,1,none⟩=some a)(e:w.cell? ⟨k,2,none⟩=some c):
 let W:=((w.setCell ⟨k,0,none⟩ u0).setCell ⟨k,1,none⟩ u1).setCell ⟨k,2,none⟩ u2
 W.cell? ⟨k,0,none⟩=some u0/\W.cell? ⟨k,1,none⟩=some u1/\W.cell? ⟨k,2,none⟩=some u2:=by
 grind[mL]
def jK(x:ByteArray)(p:Int):Value:= .agg #[.string x,Qc p,Qc 0]
theorem zN(T:List aU)(g J b:Nat)(r:Rd)(t:aU)(w:World)(h:eK T g J b r w)(k:0<=r.c/\r.c<=1000000):
 Calls prog 243 #[Qd b,t.g] w fun e w'=>e= .returned (.tuple #[])/\eK T g J b (r.l0 T.length t.e) w'/\Ex b w w':=by
 rw[aU.val_eq];obtain⟨n0,o⟩:=k;have c2:=h.c2;have m:=h.froz 2;have n:=h.size;have a:=(h.setNest (r.c+1)).alloc (Qf #[Qc t.d,Qc t.e,.string t.f,Qc t.a] 143);have d:=((Ex.refl b w).set 2 (Qc (r.c+1))).alloc (Qf #[Qc t.d,Qc t.e,.string t.f,Qc t.a] 143);have l:=a.c2
 by_cases f:10 < r.c+1
 ·have c:Hid (r.l0 T.length t.e=Rd.fail T.length ⟨r.b,r.c+1,r.a,r.e⟩ 6 t.e):=if_pos f;go_enter func243,ntmps243
  go_wp2_with fail
  refine(aFT T g J b _ _ _ _ a).mono ?_;rintro e p ⟨rfl,j,i⟩;go_wp2;go_end0
  exact⟨rfl,by rw[c.o];exact j,d.t i⟩
 ·have c:Hid (r.l0 T.length t.e=⟨r.b,r.c+1,r.a,r.e⟩):=if_neg f;go_enter func243,ntmps243
  go_wp2_with fail
  go_end0
  exact⟨rfl,by rw[c.o];exact a,d⟩
theorem Rd.take_nest(T:List aU)(r:Rd)(Y:List Int):(r.take T Y).c=r.c:=by
 unfold Rd.take;split
 ·rfl
 grind[Rd.fail]
def Rd.a0(T:List aU)(r:Rd)(Y:List Int):Rd:=(r.take T Y).l0 T.length (bX T r Y).e
def Rd.h0(T:List aU)(r:Rd)(k:Int):Rd:=⟨(r.take T [k]).b,(r.take T [k]).c - 1,(r.take T [k]).a,(r.take T [k]).e⟩
theorem aA4(T:List aU)(g J b:Nat)(r:Rd)(k a:Nat)(Y:List Int)(w:World)(h:eK T g J b r w)(j:nS w k Y)(l:Y.length<=100)(h0:aM Y 0=false)(m:0<=r.c/\r.c<=1000000):
 Calls prog 186 #[Qd b,Qe k Y.length a] w fun e w'=>e= .returned (.tuple #[])/\eK T g J b (r.a0 T Y) w'/\Ex b w w':=by
 go_enter func186,ntmps186
 go_wp2_with fail
 refine(iY T g J b r k a Y w h j l h0).mono ?_;rintro e o ⟨rfl,f,c⟩;generalize n:bX T r Y=q;rw[aU.val_eq];go_wp2_with fail
 refine(zN T g J b (r.take T Y) q o f (by rw[Rd.take_nest];exact m)).mono ?_;rintro e p ⟨rfl,i,d⟩;go_wp2;go_end0
 exact⟨rfl,by unfold Rd.a0;rw[n];exact i,c.t d⟩
theorem qY(T:List aU)(g J b:Nat)(r:Rd)(k:Int)(w:World)(h:eK T g J b r w)(h0:aM [k] 0=false)(m:0<=r.c/\r.c<=1000000):
 Calls prog 188 #[Qd b,Qc k] w fun e w'=>e= .returned (.tuple #[])/\eK T g J b (r.h0 T k) w'/\Ex b w w':=by
 have l:=cA w [k] #[Qc k] rfl;have f:=h.alloc (Qf #[Qc k] 141);have e1:=(Ex.refl b w).alloc (Qf #[Qc k] 141);go_enter func188,ntmps188
 go_wp2_with fail
 refine(iY T g J b r w.1.size 1 [k] _ f l Od h0).mono ?_;rintro e p ⟨rfl,a,c⟩;have j:0<=(r.take T [k]).c/\(r.take T [k]).c<=1000000:=by rw[Rd.take_nest];exact m
 obtain⟨n0,o⟩:=j;have c2:=a.c2;have n:=a.froz 2;have i:=a.setNest ((r.take T [k]).c - 1);have d:=(e1.t c).set 2 (Qc ((r.take T [k]).c - 1));go_wp2;go_end0
 exact⟨rfl,i,d⟩
theorem rK(t:aU)(w:World):
 Calls prog 242 #[t.g] w fun e w'=>e= .returned (jK t.f t.e)/\Below w.1.size w w':=by
 rw[aU.val_eq];go_enter func242,ntmps242
 go_wp2;refine bodyPost_ret (v:=jK t.f t.e) (by simp[results,results242,go_sem,jK]) rfl ⟨rfl,?_⟩;exact((Below.refl _ _).alloc Ol _).alloc Od _
theorem aA6(T:List aU)(g J b:Nat)(r:Rd)(w:World)(h:eK T g J b r w):
 Calls prog 185 #[Qd b] w fun e w'=>e= .returned (jK (bX T r [1]).f (bX T r [1]).e)/\eK T g J b (r.take T [1]) w'/\Ex b w w':=by
 have p:=(h.alloc (Qf #[.string (ByteArray.mk #[]),Qc 0,Qc 0] 100));have e1:=((Ex.refl b w).alloc (Qf #[.string (ByteArray.mk #[]),Qc 0,Qc 0] 100));have E:=h.size;have F:=h.gsize;go_enter func185,ntmps185
 go_wp2_with fail
 have s:=p.alloc (Qf #[Qc 1] 141);have n:=e1.alloc (Qf #[Qc 1] 141);have cP:(w.alloc (Qf #[.string (ByteArray.mk #[]),Qc 0,Qc 0] 100)).1.size=w.1.size+1:=Od
 have i:=cA (w.alloc (Qf #[.string (ByteArray.mk #[]),Qc 0,Qc 0] 100)) [1] #[Qc 1] rfl;rw[cP]at i
 have j:((w.alloc (Qf #[.string (ByteArray.mk #[]),Qc 0,Qc 0] 100)).alloc (Qf #[Qc 1] 141)).1[w.1.size]?=some (Qf #[.string (ByteArray.mk #[]),Qc 0,Qc 0] 100):=
  (On (by rw[cP];omega)).t (Qk w _)
 generalize ((w.alloc (Qf #[.string (ByteArray.mk #[]),Qc 0,Qc 0] 100)).alloc (Qf #[Qc 1] 141))=l at*;refine(iY T g J b r (w.1.size+1) 1 [1] l s i Od Ob).mono ?_;rintro e m ⟨rfl,t,f⟩;have h0:w.1.size≠b:=Oa
 have c:w.1.size≠g:=Oa
 have k:=(f.block w.1.size (Oo j) h0).t j;generalize x:bX T r [1]=q;rw[aU.val_eq];go_wp2_with fail
 refine(rK q m).mono ?_;rintro e D ⟨rfl,a⟩;have u:=t.below a;have o:=(n.t f).t (Ex.of_below (b:=b) a);have C:=(a.block w.1.size (Oo k)).t k;obtain⟨y0,A,B,d⟩:=sM C;have G:=d 0;have H:=d 1;have I:=d 2;obtain⟨x0,y,z⟩:=aNW (u0:= .string q.f) (u1:= Qc q.e) (u2:= Qc 0) y0 A B;unfold jK;go_wp2;refine bodyPost_ret (v:=jK q.f q.e) (by simp[results,results185,go_sem,jK,x0,y,z]) rfl ⟨by rw[x],?_,?_⟩
 ·exact((u.setOther h0 c 0 _).setOther h0 c 1 _).setOther h0 c 2 _
 ·exact((o.j0 Ol 0 _).j0 Ol 1 _).j0 Ol 2 _
end
end Go.Proofs.YtikffmloeifkpaaGreatDoor
