/- Contracts. -/
import Derived.Test.YtikffmloeifkpaaGreatDoorR04
import Derived.Deep.Onto
set_option maxHeartbeats 2000000
set_option maxRecDepth 100000
namespace Go.Proofs.YtikffmloeifkpaaGreatDoor
open Go.RowKit Go.Lib Tryz
section
theorem eV.iterAt{B b:Nat}{c:Cut}{v:Value}{w:World}(h:eV B b c v w){k:Nat}{s:ByteArray}{pos:Nat}(m:w.1[k]?=some (.stringIter s pos))(j:b≠k)(f:Nat):eV B b c v (w.iterAt k s f):=by
 refine h.kept (by grind[iterAt_other]) ⟨h.own.1,?_⟩;rcases h.own.2 with i|⟨g,J,a,e,d,l,r⟩
 ·simp[*]
 ·have n:g≠k:=by
   grind
  exact Or.r ⟨g,J,a,e,d,(by grind[iterAt_other]),r⟩
theorem dQ{w:World}{b:Nat}{v0 a u0 u1:Value}(c:w.cell? ⟨b,0,none⟩=some v0)(d:w.cell? ⟨b,1,none⟩=some a):
 ((w.setCell ⟨b,0,none⟩ u0).setCell ⟨b,1,none⟩ u1).cell? ⟨b,0,none⟩=some u0/\((w.setCell ⟨b,0,none⟩ u0).setCell ⟨b,1,none⟩ u1).cell? ⟨b,1,none⟩=some u1:=by
 grind[eP]
theorem aBP{w:World}(h:Tab w):0 < w.1.size:=Qp w _ (h 0 Oa)
theorem aP4(s:ByteArray)(w:World)(c:4000 < s.size)(a:s.size<=maxLen):
 Calls prog 41 #[.string s] w fun e b=>e= .returned (.tuple #[.slice none 0 0,.agg #[Qc 1,Qc 0]])/\Below w.1.size w b:=by
 unfold maxLen at a;have d:(4000:Int) < (s.size:Int):=Oa
 go_enter func41,ntmps41
 go_wp2;refine bodyPost_ret (v:= .tuple #[.slice none 0 0,.agg #[Qc 1,Qc 0]]) (by simp[results,results41,go_sem]) rfl ⟨rfl,?_⟩;exact(Below.refl _ _).alloc Ol _
structure aFC(s:ByteArray)(w:World)(p:Nat)(c:Cut)(v:Value)(wr:World):Prop where
 cut:eV (w.1.size+2) (w.1.size+1) c v wr
 iter:wr.1[w.1.size+1+1]?=some (.stringIter s p)
 o:wr.1[w.1.size]?=some (Qf #[Qc 0,Qc 0] 37)
 below:Below w.1.size w wr
 f:c.f=s
 good:c.a=0
 fine:bQ9 c p
 run:∃ n,s.size+1<=n+p/\dN s=c.run n p
theorem aFC.start(s:ByteArray)(w:World):aFC s w 0 ⟨s,[],0,0,0,0⟩ (.slice none 0 0)
 (((w.alloc (Qf #[Qc 0,Qc 0] 37)).alloc (Qf #[.string s,.slice none 0 0,Qc 0,Qc 0,Qc 0,Qc 0] 138)).iter s 0):=by
 have h:(w.alloc (Qf #[Qc 0,Qc 0] 37)).1.size=w.1.size+1:=Od
 have i:((w.alloc (Qf #[Qc 0,Qc 0] 37)).alloc (Qf #[.string s,.slice none 0 0,Qc 0,Qc 0,Qc 0,Qc 0] 138)).1.size=w.1.size+1+1:=Od
 generalize f:w.alloc (Qf #[Qc 0,Qc 0] 37)=A at*;generalize g:A.alloc (Qf #[.string s,.slice none 0 0,Qc 0,Qc 0,Qc 0,Qc 0] 138)=C at*;have e:C.1[w.1.size+1]?=some (Qf #[.string s,.slice none 0 0,Qc 0,Qc 0,Qc 0,Qc 0] 138):=by grind[heap_alloc_new]
 have d:(C.iter s 0).1[w.1.size+1]?=some (Qf #[.string s,.slice none 0 0,Qc 0,Qc 0,Qc 0,Qc 0] 138):=(Below.heap_alloc C _ _ Oa).t e;have a:∀ o,(C.iter s 0).cell? ⟨w.1.size+1,o,none⟩=(#[.string s,.slice none 0 0,Qc 0,Qc 0,Qc 0,Qc 0]:Array Value)[o]?:=(by grind[cell_of_row]);refine⟨⟨a 0,a 1,a 2,a 3,a 4,a 5,fun o=>?_,World.ownsRow_nil _ _ _ _,Oa⟩,?_,?_,?_,rfl,rfl,bQ9.start s,⟨s.size+1,Oa,rfl⟩⟩
 ·simp[World.frozen?,d]
 ·grind[World.iter_heap]
 ·refine(Below.heap_alloc C _ _ Oa).t ?_
  grind[Below.heap_alloc,heap_alloc_new]
 ·have b:Below w.1.size w A:=by rw[<-f];exact(Below.refl _ _).alloc Oa _
  have c:Below w.1.size w C:=by rw[<-g];exact b.alloc Oa _
  exact c.alloc Oa _
theorem aFC.moved{s:ByteArray}{w wr:World}{p:Nat}{c:Cut}{v:Value}(h:aFC s w p c v wr)(q:Nat):eV (w.1.size+2) (w.1.size+1) c v (wr.iterAt (w.1.size+1+1) s q)/\
 (wr.iterAt (w.1.size+1+1) s q).1[w.1.size+1+1]?=some (.stringIter s q)/\(wr.iterAt (w.1.size+1+1) s q).1[w.1.size]?=some (Qf #[Qc 0,Qc 0] 37)/\
 Below w.1.size w (wr.iterAt (w.1.size+1+1) s q):=
 ⟨h.cut.iterAt h.iter Oa q,iterAt_heap _ _ _ _ _ h.iter,(iterAt_other _ _ _ _ _ Oa).t h.o,below_iterAt h.below Oa _ _⟩
theorem aRH(s:ByteArray)(w:World)(K:Tab w)(hz:s.size<=4000):
 Calls prog 41 #[.string s] w fun e w'=>Below w.1.size w w'/\
  (((dN s).a≠0/\e= .returned (.tuple #[.slice none 0 0,.agg #[Qc (dN s).a,Qc (dN s).e]]))\/
   ((dN s).a=0/\∃ g J,e= .returned (.tuple #[Qe g ((dN s).words.length+1) J,.agg #[Qc 0,Qc 0]])/\
    w'.ownsRow w.1.size 143 4 (Qe g ((dN s).words.length+1) J) ((dN s).words.length+1) (fJ ((dN s).words++[⟨0,s.size,ByteArray.mk #[],0⟩])))):=by
 have R:=aBP K;have z6: ¬(4000:Int) < (s.size:Int):=Oa
 go_enter func41,ntmps41
 go_wp2;go_loopw [] (fun wr=>∃ (p:Nat) (c:Cut) (v:Value),aFC s w p c v wr) (fun wr=>s.size - wr.iterPos (w.1.size+1+1))
 case atStart=>exact⟨0,_,_,aFC.start s w⟩
 case round=>
  obtain⟨p,c,v,d⟩:=hrel;have S:Tab wr:=K.below d.below R;have b:=d.fine;have a:=d.f
  by_cases r:p < s.size
  ·have y9:=fun ty=>run_next_any_at (P:=prog) wr (w.1.size+1+1) s p ty d.iter r;obtain⟨m1,T,m3,m4⟩:=d.moved (p+(Utf8.decode s p).2);have k6:wr.iterPos (w.1.size+1+1)=p:=by simp[World.iterPos,d.iter]
   have a8:=Lib.decode_width_pos s p r;go_wp2_with fail
   have y7:Tab (wr.iterAt (w.1.size+1+1) s (p+(Utf8.decode s p).2)):=K.below m4 R;have a6:(wr.iterAt (w.1.size+1+1) s (p+(Utf8.decode s p).2)).iterPos (w.1.size+1+1)=p+(Utf8.decode s p).2:=by simp[World.iterPos,T]
   clear y9;generalize wr.iterAt (w.1.size+1+1) s (p+(Utf8.decode s p).2)=W1 at*;refine(aGB _ _ c v p _ W1 m1 y7 (by rw[a];omega) (by rw[a];omega) ⟨b.lo,b.hi⟩).mono ?_;rintro e F ⟨rfl,z,L⟩;have D:=L.others.iter T Oa;have A:=(L.below.block w.1.size Oa).t m3;have G:=m4.t (L.below.mono (Nat.le_succ _));have t2:Tab F:=K.below G R;have Z:w.1.size+2<=F.1.size:=by have:=(Oo D);omega
   have X:c.words.length<=5000:=by have:=b.count;have:=b.hi;omega
   obtain⟨n,hn,j⟩:=d.run;obtain⟨n,rfl⟩:∃ a1,n=a1+1:=⟨n - 1,Oa⟩;cases hg:c.goes p (Utf8.decode s p).1
   ·have u:c.step p (Utf8.decode s p).1=(c.D p).N p (Utf8.decode s p).1:=by unfold Cut.step;rw[hg];rfl
    go_wp2_with fail
    refine(zP _ _ c v p F z t2 Oa Z X (by rw[a];omega) (by rw[a];omega) ⟨b.lo,b.hi⟩ b.digits).mono ?_;rintro e f ⟨rfl,⟨M,y⟩,k⟩;have i3:=k.others.iter D Oa;have E:=(k.below.block w.1.size Oa).t A;have H:=G.t (k.below.mono (Nat.le_succ _));have t3:Tab f:=K.below H R;go_wp2_with fail
    refine(aKX _ _ _ M p _ f y t3 Oa).mono ?_;rintro e B ⟨rfl,x,Y⟩;have i4:=Y.others.iter i3 Oa;have U:=(Y.below.block w.1.size Oa).t E;have b4:=H.t (Y.below.mono (Nat.le_succ _));rw[<-u]at x;clear L k Y z y D i3 A E t2 t3 y7 S m1 T m3 u;have g2:=x.a
    by_cases i:(c.step p (Utf8.decode s p).1).a=0
    ·have l:=bQ9.step (c:=c) (p:=p) b (by rw[a];exact r) (by rw[a];exact i);rw[a]at l
     have z2:aFC s w (p+(Utf8.decode s p).2) (c.step p (Utf8.decode s p).1) M B:=by
      refine⟨x,i4,U,b4,l.2,i,l.1,n,Oa,?_⟩;rw[j];show(if p < c.f.size then _ else _)=_;rw[a,if_pos r,if_neg (by simpa using i)]
     rw[i]at g2;have z7:B.iterPos (w.1.size+1+1)=p+(Utf8.decode s p).2:=by simp[World.iterPos,i4]
     clear d l j i x a b;go_wp2_with fail
     go_roundw
     case rel=>exact⟨_,_,_,z2⟩
     case measure=>rw[z7,k6];omega
    ·have g3:=x.e
     have m:Hid (dN s=c.step p (Utf8.decode s p).1):=by
      unfold Hid;rw[j];show(if p < c.f.size then _ else _)=_;rw[a,if_pos r,if_pos (by simpa using i)]
     have k2:((c.step p (Utf8.decode s p).1).a !=0)=true:=by simpa using i
     have V:B.cell? ⟨w.1.size,0,none⟩=some (Qc 0):=Og U rfl
     have W:B.cell? ⟨w.1.size,1,none⟩=some (Qc 0):=Og U rfl
     have z0:∀ o,B.frozen? ⟨w.1.size,o,none⟩=false:=fun o=>by simp[World.frozen?,U]
     have z1:=x.thawed;generalize c.step p (Utf8.decode s p).1=C at*;clear d j x a b;go_wp2_with fail
     go_region
     all_goals go_wp2
     obtain⟨N,O⟩:=dQ (w:=B) (u0:= Qc C.a) (u1:= Qc C.e) V W
     all_goals (refine bodyPost_ret (v:= .tuple #[.slice none 0 0,.agg #[Qc C.a,Qc C.e]]) (by simp[results,results41,go_sem,N,O]) rfl ⟨?_,Or.l ⟨?_,?_⟩⟩)
     all_goals first|(rw[m.o];exact i)|(rw[m.o])|exact(Qv (Qv b4 Ol _) Ol _).drew
   ·have u:c.step p (Utf8.decode s p).1=c:=by unfold Cut.step;rw[hg];rfl
    have l:=bQ9.step (c:=c) (p:=p) b (by rw[a];exact r) (by rw[a,u];exact d.good);rw[a,u]at l
    have z2:aFC s w (p+(Utf8.decode s p).2) c v F:=by
     refine⟨z,D,A,G,a,d.good,l.1,n,Oa,?_⟩;rw[j];show(if p < c.f.size then _ else _)=_;rw[a,if_pos r,u,if_neg (by simpa using d.good)]
    have y8:F.iterPos (w.1.size+1+1)=p+(Utf8.decode s p).2:=by simp[World.iterPos,D]
    clear d l j z a b L D A t2 y7 S m1 T m3 u;go_wp2_with fail
    go_roundw
    case rel=>exact⟨_,_,_,z2⟩
    case measure=>rw[y8,k6];omega
  ·have y8:p=s.size:=by have:=b.le;rw[a]at this;omega
   subst y8;have y9:=fun ty=>run_next_end_at (P:=prog) wr (w.1.size+1+1) s s.size ty d.iter Oa;have z:=d.cut;have A:=d.o;have G:=d.below;have Z:w.1.size+2<=wr.1.size:=by have:=(Oo d.iter);omega
   have X:c.words.length<=5000:=by have:=b.count;have:=b.hi;omega
   obtain⟨n,hn,j⟩:=d.run;obtain⟨n,rfl⟩:∃ a1,n=a1+1:=⟨n - 1,Oa⟩
   have m:Hid (dN s=c.D s.size):=by
    unfold Hid;rw[j];show(if s.size < c.f.size then _ else _)=_;rw[a,Oh]
   go_wp2_with fail
   clear y9;refine(zP _ _ c v s.size wr z S Oa Z X (by rw[a];omega) (by rw[a];omega) ⟨b.lo,b.hi⟩ b.digits).mono ?_;rintro e f ⟨rfl,⟨M,y⟩,k⟩;have E:=(k.below.block w.1.size Oa).t A;have H:=G.t (k.below.mono (Nat.le_succ _));have a3:w.1.size+2<=f.1.size:=Qm Z k.below.size
   have a7:(c.D s.size).words.length<=5000:=by
    have:=b.count;have:=b.hi;rcases(c.Z s.size).2.2.2 with h|⟨_,h⟩<;>omega
   clear d k z A S j a b X;have g2:=y.a;have g3:=y.e;have V:f.cell? ⟨w.1.size,0,none⟩=some (Qc 0):=Og E rfl
   have W:f.cell? ⟨w.1.size,1,none⟩=some (Qc 0):=Og E rfl
   have z0:∀ o,f.frozen? ⟨w.1.size,o,none⟩=false:=fun o=>by simp[World.frozen?,E]
   by_cases i:(c.D s.size).a=0
   ·rw[i]at g2;obtain⟨i0,z8,z5,z4,z3⟩:=info_parts info143;have h8:=y.own;have q:w.1.size < f.1.size:=Oa
    have p1:=y.wordsAt;have Q:some w.1.size≠M.ownBlock:=fun e=>by have:=(h8.lt _ e.symm).1;omega
    have a9:=hz;clear z6;generalize c.D s.size=C at*;go_wp2_with (at_builtin;refine wpList_append_lies _ rfl _ _ 85 rfl (w.1.size+2) 143 i0 _ 4 40 underlying85 z8 z5 z4 z3 rfl Oa M C.words.length (fJ C.words) rfl (h8.alloc _) ⟨f.1.size,0,none⟩ 1 1 (Tok.cells ⟨0,s.size,ByteArray.mk #[],0⟩) rfl rfl (World.news_of_block (cs:=#[Qc 0,Qc s.size,.string (ByteArray.mk #[]),Qc 0]) (t:=143) (fr:=(0,0)) (Qk f _)) (by simp[Tok.cells,Value.oneCell']) Oa (by unfold maxLen;omega) Oa (by simp;omega) (f.1.size+1) Od ?_;intro gg J w1 k7 k1 a4 a5;have I:=zI k1;have y0:=(I.cell_far ⟨w.1.size,0,none⟩ (kO q) Q).t (sS q V);have y1:=(I.cell_far ⟨w.1.size,1,none⟩ (kO q) Q).t (sS q W);have y2:=(I.frozen_far ⟨w.1.size,0,none⟩ (kO q) Q).t (xB q (z0 0));have y3:=(I.frozen_far ⟨w.1.size,1,none⟩ (kO q) Q).t (xB q (z0 1)))
    obtain⟨N,O⟩:=dQ (u0:= Qc 0) (u1:= Qc 0) y0 y1;refine bodyPost_ret (v:= .tuple #[Qe gg (C.words.length+1) J,.agg #[Qc 0,Qc 0]]) (by simp[results,results41,go_sem,N,O]) rfl ⟨?_,Or.r ⟨?_,gg,J,?_,?_⟩⟩
    ·refine Qv (Qv (Below.grown (H.alloc Oa _).drew I (by show _<=(f.alloc _).1.size;simp;omega) (fun a2 hk=>?_)) Ol _) Ol _;have:=(h8.lt a2 hk).1;omega
    ·rw[m.o];exact i
    ·rw[m.o]
    ·rw[m.o,bD2];exact World.ownsRow.mono (ownsRow_setCell_below (ownsRow_setCell_below k7 (by show w.1.size < _;omega) _) (by show w.1.size < _;omega) _) Oa
   ·have k2:((c.D s.size).a !=0)=true:=by simpa using i
    generalize c.D s.size=C at*;go_wp2_with fail
    go_region
    all_goals go_wp2
    obtain⟨N,O⟩:=dQ (w:=f) (u0:= Qc C.a) (u1:= Qc C.e) V W
    all_goals (refine bodyPost_ret (v:= .tuple #[.slice none 0 0,.agg #[Qc C.a,Qc C.e]]) (by simp[results,results41,go_sem,N,O]) rfl ⟨?_,Or.l ⟨?_,?_⟩⟩)
    all_goals first|(rw[m.o];exact i)|(rw[m.o])|exact(Qv (Qv H Ol _) Ol _).drew
structure Ex(b:Nat)(w w':World):Prop where
 os:w'.os=w.os
 tape:w'.tape=w.tape
 output:w'.output=w.output
 size:w.1.size<=w'.1.size
 block:∀ k,k < w.1.size->k≠b->w'.1[k]?=w.1[k]?
theorem Ex.refl(b:Nat)(w:World):Ex b w w:=⟨rfl,rfl,rfl,Oa,Od⟩
theorem Ex.t{b:Nat}{u v w:World}(h:Ex b u v)(k:Ex b v w):Ex b u w:=
 ⟨k.os.t h.os,k.tape.t h.tape,k.output.t h.output,Qm h.size k.size,fun i hi a=>(k.block i (Nat.lt_of_lt_of_le hi h.size) a).t (h.block i hi a)⟩
theorem Ex.alloc{b:Nat}{u w:World}(h:Ex b u w)(o:Obj):Ex b u (w.alloc o):=
 h.t ⟨rfl,rfl,rfl,Od,(by grind[Below.heap_alloc])⟩
theorem Ex.drew{b:Nat}{u w:World}(h:Ex b u w):Ex b u w.drew:=⟨h.os,h.tape,h.output,h.size,h.block⟩
theorem Ex.drewN{b:Nat}{u w:World}(h:Ex b u w)(n:Nat):Ex b u (w.drewN n):=⟨h.os,h.tape,h.output,h.size,h.block⟩
theorem Ex.set{b:Nat}{u w:World}(h:Ex b u w)(o:Nat)(v:Value):Ex b u (w.setCell ⟨b,o,none⟩ v):=
 h.t ⟨rfl,rfl,rfl,Od,(by grind[Below.heap_setCell])⟩
theorem Ex.J{b:Nat}{u w:World}(h:Ex b u w){k:Nat}(c:u.1.size<=k)(o:Nat)(v:Value):Ex b u (w.setCell ⟨k,o,none⟩ v):=
 ⟨h.os,h.tape,h.output,Qm h.size Od,fun i hi a=>(Om (by show i≠k;omega)).t (h.block i hi a)⟩
theorem Ex.of_below{b:Nat}{w w':World}(h:Below w.1.size w w'):Ex b w w':=⟨h.os,h.tape,h.output,h.size,fun k a _=>h.block k a⟩
theorem Ex.grown{b:Nat}{u w w':World}{d:Option Nat}(h:Ex b u w)(a:w.grownBy w' d)(f:∀ k,d=some k->u.1.size<=k):Ex b u w':=
 ⟨a.os.t h.os,a.tape.t h.tape,a.output.t h.output,Qm h.size a.size,fun k c e=>(a.block k (Nat.lt_of_lt_of_le c h.size) Qg).t (h.block k c e)⟩
theorem Ex.below{b:Nat}{w w':World}(h:Ex b w w')(c:w.1.size<=b):Below w.1.size w w':=⟨h.os,h.tape,h.output,h.size,fun k a=>h.block k a Oa⟩
def Tok.g(t:Tok):Value:= .agg #[Qc t.d,Qc t.e,.string t.f,Qc t.a]
def aD6:Tok:=⟨0,0,ByteArray.mk #[],0⟩
structure Rd where
 b:Nat
 c:Int
 a:Int
 e:Int
def xP(n g J:Nat)(r:Rd):Array Value:=#[Qe g n J,Qc r.b,Qc r.c,Qc r.a,Qc r.e]
structure RdW(T:List Tok)(g J b:Nat)(r:Rd)(w:World):Prop where
 blk:w.1[b]?=some (.cells (xP T.length g J r) 145 (0,0))
 row:∃ cur,w.1[g]?=some (.cells cur 143 (0,0))/\cur.toList.take (T.length*4)=fJ T
 cap_:T.length<=J
 few:T.length<=5000
 lt:r.b < T.length
 last:(T.getD (T.length - 1) aD6).d=0
 vals:∀ t∈T,0<=t.a/\t.a<=999999999
variable {T:List Tok} {g J b:Nat} {r:Rd} {w w':World}
theorem RdW.cell(h:RdW T g J b r w)(o:Nat):w.cell? ⟨b,o,none⟩=(xP T.length g J r)[o]?:=cell_of_row _ _ _ _ _ _ h.blk
theorem RdW.froz(h:RdW T g J b r w)(o:Nat):w.frozen? ⟨b,o,none⟩=false:=by simp[World.frozen?,h.blk]
theorem RdW.size(h:RdW T g J b r w):b < w.1.size:=(Oo h.blk)
theorem RdW.gsize(h:RdW T g J b r w):g < w.1.size:=by obtain⟨a,c,_⟩:=h.row;grind
theorem RdW.ne(h:RdW T g J b r w):g≠b:=by
 obtain⟨c,a,_⟩:=h.row;intro e;rw[e,h.blk]at a;cases a
theorem RdW.c0(h:RdW T g J b r w):w.cell? ⟨b,0,none⟩=some (Qe g T.length J):=h.cell 0
theorem RdW.c1(h:RdW T g J b r w):w.cell? ⟨b,1,none⟩=some (Qc r.b):=h.cell 1
theorem RdW.c2(h:RdW T g J b r w):w.cell? ⟨b,2,none⟩=some (Qc r.c):=h.cell 2
theorem RdW.c3(h:RdW T g J b r w):w.cell? ⟨b,3,none⟩=some (Qc r.a):=h.cell 3
theorem RdW.c4(h:RdW T g J b r w):w.cell? ⟨b,4,none⟩=some (Qc r.e):=h.cell 4
theorem aM{b o:Nat}{cs:Array Value}{t:TypeId}(v:Value)(h:w.1[b]?=some (.cells cs t (0,0))):(w.setCell ⟨b,o,none⟩ v).1[b]?=some (.cells (cs.setIfInBounds o v) t (0,0)):=by
 grind[World.setCell]
theorem RdW.write(h:RdW T g J b r w)(o:Nat)(v:Value){a:Rd}(f:(xP T.length g J r).setIfInBounds o v=xP T.length g J a)(e:a.b < T.length):RdW T g J b a (w.setCell ⟨b,o,none⟩ v):=by
 refine⟨by rw[aM v h.blk,f],?_,h.cap_,h.few,e,h.last,h.vals⟩;obtain⟨c,d,i⟩:=h.row;exact⟨c,(Om h.ne).t d,i⟩
theorem RdW.setNext(h:RdW T g J b r w)(m:Nat)(a:m < T.length):RdW T g J b {r with b:=m} (w.setCell ⟨b,1,none⟩ (Qc m)):=h.write 1 _ rfl a
theorem RdW.setNest(h:RdW T g J b r w)(m:Int):RdW T g J b {r with c:=m} (w.setCell ⟨b,2,none⟩ (Qc m)):=h.write 2 _ rfl h.lt
theorem RdW.setCode(h:RdW T g J b r w)(m:Int):RdW T g J b {r with a:=m} (w.setCell ⟨b,3,none⟩ (Qc m)):=h.write 3 _ rfl h.lt
theorem RdW.setPos(h:RdW T g J b r w)(m:Int):RdW T g J b {r with e:=m} (w.setCell ⟨b,4,none⟩ (Qc m)):=h.write 4 _ rfl h.lt
theorem RdW.move(h:RdW T g J b r w)(a:w'.1[b]?=w.1[b]?)(e:w'.1[g]?=w.1[g]?):RdW T g J b r w':=by
 obtain⟨c,d,f⟩:=h.row;exact⟨a.t h.blk,Qh,h.cap_,h.few,h.lt,h.last,h.vals⟩
theorem RdW.setOther(h:RdW T g J b r w){k:Nat}(a:k≠b)(c:k≠g)(o:Nat)(v:Value):RdW T g J b r (w.setCell ⟨k,o,none⟩ v):=
 h.move (by grind[Below.heap_setCell]) (by grind[Below.heap_setCell])
theorem RdW.alloc(h:RdW T g J b r w)(o:Obj):RdW T g J b r (w.alloc o):=h.move (On h.size) (On h.gsize)
theorem RdW.drew(h:RdW T g J b r w):RdW T g J b r w.drew:=h.move rfl rfl
theorem RdW.drewN(h:RdW T g J b r w)(n:Nat):RdW T g J b r (w.drewN n):=h.move rfl rfl
theorem RdW.below(h:RdW T g J b r w)(a:Below w.1.size w w'):RdW T g J b r w':=h.move (a.block b h.size) (a.block g h.gsize)
theorem aF0(l:List Tok):∀ i t,l[i]?=some t->∀ j,j < 4->(fJ l)[i*4+j]?=t.cells[j]?:=by
 induction l with
 |nil=>simp
 |cons x l ih=>
  intro i t h j a;have d:(fJ (x::l))=x.cells++fJ l:=rfl;have c:x.cells.length=4:=rfl
  grind
theorem RdW.tok(h:RdW T g J b r w){i:Nat}{t:Tok}(f:T[i]?=some t)(j:Nat)(e:j < 4):w.cell? ⟨g,i*4+j,none⟩=t.cells[j]?:=by
 obtain⟨k,d,c⟩:=h.row;have hi:i < T.length:=Qg;have a:=aF0 T i t f j e;rw[<-c,List.getElem?_take,if_pos Oa]at a;rw[cell_of_row _ _ _ _ _ _ d,<-a];simp
def dD(T:List Tok)(i:Nat):Tok:=T.getD i aD6
theorem lJ{i:Nat}(h:i < T.length):T[i]?=some (dD T i):=by
 grind[dD]
theorem RdW.tok0(h:RdW T g J b r w):w.cell? ⟨g,r.b*4,none⟩=some (Qc (dD T r.b).d):=h.tok (lJ h.lt) 0 Oa
theorem RdW.tok1(h:RdW T g J b r w):w.cell? ⟨g,r.b*4+1,none⟩=some (Qc (dD T r.b).e):=h.tok (lJ h.lt) 1 Oa
theorem RdW.tok2(h:RdW T g J b r w):w.cell? ⟨g,r.b*4+2,none⟩=some (.string (dD T r.b).f):=h.tok (lJ h.lt) 2 Oa
theorem RdW.tok3(h:RdW T g J b r w):w.cell? ⟨g,r.b*4+3,none⟩=some (Qc (dD T r.b).a):=h.tok (lJ h.lt) 3 Oa
def bCN(w:World)(k:Nat)(O:List Int):Prop:=∀ i,i < O.length->w.cell? ⟨k,i,none⟩=some (Qc (O.getD i 0))
def aQ(O:List Int)(v:Int):Bool:=O.contains v
def Idx(O:List Int)(v n:Int):Prop:=decide (0<=n)=aQ O v
theorem Idx.yes{O:List Int}{v:Int}{n:Nat}(a:n < O.length)(h:O.getD n 0=v):Idx O v n:=by
 grind[Idx,aQ]
theorem Idx.no{O:List Int}{v:Int}(h:∀ j,j < O.length->O.getD j 0≠v):Idx O v (-1):=by
 grind[Idx,aQ,List.getElem_of_mem,List.getElem?_eq_getElem,List.contains_iff_mem]
theorem aL3(k p:Nat)(O:List Int)(v:Int)(w:World)(h:bCN w k O)(y:O.length<=100):
 Calls prog 241 #[Qe k O.length p,Qc v] w fun e t=>(∃ n:Int,e= .returned (Qc n)/\Idx O v n)/\w=t:=by
 go_enter func241,ntmps241
 go_wp2;go_loop [8] (fun i=>∃ n:Nat,n<=O.length/\i= Qc n/\∀ j,j < n->O.getD j 0≠v) (fun i=>O.length - (RowKit.intOf i).toNat)
 case atStart=>exact⟨0,Oa,rfl,fun j s=>Oa⟩
 case round=>
  obtain⟨n,z,rfl,f⟩:=hrel;have c:Hid (∀ j,j < n->O.getD j 0≠v):=f;clear f
  by_cases m:n < O.length
  ·have q:=h n m;generalize o:O.getD n 0=x at q;have d:Hid (O.getD n 0=x):=o;clear o
   by_cases a:v=x
   ·subst a;go_wp2;go_ret;exact⟨⟨n,rfl,Idx.yes m d.o⟩,rfl⟩
   ·have u:(v==x)=false:=by simpa using a
    go_wp2;go_round
    case rel=>exact⟨n+1,Oa,by go_num,fun j s=>by
     rcases Qt j n with l|l;exact c.o j l;obtain rfl:j=n:=Oa
     rw[d.o];exact fun e=>a e.symm⟩
    case measure=>simp[RowKit.intOf];omega
  ·have:n=O.length:=Oa
   subst this;go_wp2;go_ret;exact⟨⟨-1,rfl,Idx.no c.o⟩,rfl⟩
theorem aCT(k a:Nat)(O:List Int)(v:Int)(w:World)(h:bCN w k O)(i:O.length<=100):
 Calls prog 183 #[Qe k O.length a,Qc v] w fun e d=>e= .returned (.bool (aQ O v))/\w=d:=by
 go_enter func183,ntmps183
 go_wp2_with fail
 refine(aL3 k a O v w h i).mono ?_;rintro e d ⟨⟨n,rfl,c⟩,rfl⟩;have f:Hid (decide (0<=n)=aQ O v):=c;clear c;go_wp2;go_ret;exact⟨bX f.o,rfl⟩
def aN(T:List Tok)(r:Rd)(O:List Int):Bool:=aQ O (dD T r.b).d
theorem bMD(T:List Tok)(g J b:Nat)(r:Rd)(k a:Nat)(O:List Int)(w:World)(h:RdW T g J b r w)(f:bCN w k O)(i:O.length<=100):
 Calls prog 123 #[Qd b,Qe k O.length a] w fun e l=>e= .returned (.bool (aN T r O))/\∃ n,l=w.drewN n:=by
 have c0:=h.c0;have c1:=h.c1;have p:=h.tok0;have o:(r.b:Int) < (T.length:Int):=by have:=h.lt;omega
 have m:(T.length:Int)<=5000:=by have:=h.few;omega
 have d:∀ n,bCN (w.drewN n) k O:=fun n j hi=>f j hi;go_enter func123,ntmps123
 go_wp2;go_quiet ((go_at_call 183;exact Calls.quiet_of_same ((aCT k a O _ _ (d _) i).mono fun _ _ c=>⟨c.1,c.2.symm⟩)))
 go_wp2;go_ret;exact⟨rfl,_,rfl⟩
def Rd.fail(n:Nat)(r:Rd)(c p:Int):Rd:=if r.a=0 then⟨n - 1,r.c,c,p⟩else⟨n - 1,r.c,r.a,r.e⟩
def Rd.step(r:Rd):Rd:=⟨r.b+1,r.c,r.a,r.e⟩
def Rd.take(T:List Tok)(r:Rd)(O:List Int):Rd:=if aN T r O then r.step else r.fail T.length 2 (dD T r.b).e
def cN(T:List Tok)(r:Rd)(O:List Int):Tok:=if aN T r O then dD T r.b else aD6
def Rd.C(T:List Tok)(r:Rd)(O:List Int):Rd:=if aN T r O then r.step else r
def Rd.M(n:Nat)(r:Rd)(p:Int):Rd:=if 10 < r.c+1 then Rd.fail n ⟨r.b,r.c+1,r.a,r.e⟩ 6 p else⟨r.b,r.c+1,r.a,r.e⟩
theorem RdW.stepped(h:RdW T g J b r w){O:List Int}(a:aN T r O=true)(d:aQ O 0=false):r.b+1 < T.length:=by
 have f:=h.lt;rcases Qt (r.b+1) T.length with c|c
 ·exact c
 ·exfalso;have e:r.b=T.length - 1:=Oa
  unfold aN dD at a;rw[e,h.last,d]at a;cases a
theorem aB4(T:List Tok)(g J b:Nat)(r:Rd)(c p:Int)(w:World)(h:RdW T g J b r w):
 Calls prog 184 #[Qd b,Qc c,Qc p] w fun e k=>e= .returned (.tuple #[])/\RdW T g J b (r.fail T.length c p) k/\Ex b w k:=by
 have c0:=h.c0;have c1:=h.c1;have c3:=h.c3;have c4:=h.c4;have l:=h.froz 1;have f3:=h.froz 3;have m:=h.froz 4;have o:(r.b:Int) < (T.length:Int):=by have:=h.lt;omega
 have n:(T.length:Int)<=5000:=by have:=h.few;omega
 have j:((T.length - 1:Nat):Int)=(T.length:Int) - 1:=by have:=h.lt;omega
 have i:Hid (((T.length - 1:Nat):Int)=(T.length:Int) - 1):=j;clear j
 by_cases a:r.a=0
 ·have f:=((h.setCode c).setPos p).setNext (T.length - 1) (Oi h.lt);rw[i.o]at f;rw[a]at c3;have d:r.fail T.length c p=⟨T.length - 1,r.c,c,p⟩:=if_pos a;rw[d];clear d a;go_enter func184,ntmps184
  go_wp2;go_end0
  exact⟨rfl,f,(((Ex.refl b w).set 3 _).set 4 _).set 1 _⟩
 ·have f:=h.setNext (T.length - 1) (Oi h.lt);rw[i.o]at f;have d:r.fail T.length c p=⟨T.length - 1,r.c,r.a,r.e⟩:=if_neg a;rw[d];have q:(r.a==0)=false:=by simpa using a
  clear d a;go_enter func184,ntmps184
  go_wp2;go_end0
  exact⟨rfl,f,(Ex.refl b w).set 1 _⟩
theorem lL(T:List Tok)(g J b:Nat)(r:Rd)(k f:Nat)(O:List Int)(w:World)(h:RdW T g J b r w)(m:bCN w k O)(o:O.length<=100)(l:aQ O 0=false):
 Calls prog 189 #[Qd b,Qe k O.length f] w fun e d=>e= .returned (.bool (aN T r O))/\RdW T g J b (r.C T O) d/\Ex b w d:=by
 have q:(T.length:Int)<=5000:=by have:=h.few;omega
 have s:(r.b:Int) < (T.length:Int):=by have:=h.lt;omega
 go_enter func189,ntmps189
 go_wp2_with fail
 refine(bMD T g J b r k f O w h m o).mono ?_;rintro e d ⟨rfl,n,rfl⟩;have a:=h.drewN n;have i:=(Ex.refl b w).drewN n;generalize w.drewN n=W at*;have c1:=a.c1;have p:=a.froz 1;cases hs:aN T r O
 ·have c:Hid (r.C T O=r):=by unfold Hid Rd.C;rw[hs];rfl
  go_wp2;go_ret;exact⟨bX hs.symm,by rw[c.o];exact a,i⟩
 ·have c:Hid (r.C T O=r.step):=by unfold Hid Rd.C;rw[hs];rfl
  have j:=a.setNext (r.b+1) (h.stepped hs l);rw[Int.natCast_succ]at j;go_wp2;go_ret;exact⟨bX hs.symm,by rw[c.o];exact j,i.set 1 _⟩
theorem Tok.val_eq(t:Tok):t.g= .agg #[Qc t.d,Qc t.e,.string t.f,Qc t.a]:=rfl
theorem bCN.alloc{k:Nat}{O:List Int}(h:bCN w k O)(o:Obj):bCN (w.alloc o) k O:=fun i hi=>by
 have a:=h i hi;rw[World.cell?_alloc_past _ _ _ (Qp w _ a)];exact a
theorem bCN.ex{k:Nat}{O:List Int}(h:bCN w k O)(d:Ex b w w')(c:k≠b):bCN w' k O:=fun i hi=>by
 have a:=h i hi;exact(Qo (d.block k (Qp w _ a) c)).t a
def aTM(a p v:Int)(x:ByteArray):Array Value:=#[Qc a,Qc p,.string x,Qc v]
theorem dG{k:Nat}{a p v:Int}{x:ByteArray}{t:TypeId}(h:w.1[k]?=some (.cells (aTM a p v x) t (0,0))):
 w.cell? ⟨k,0,none⟩=some (Qc a)/\w.cell? ⟨k,1,none⟩=some (Qc p)/\w.cell? ⟨k,2,none⟩=some (.string x)/\w.cell? ⟨k,3,none⟩=some (Qc v)/\(∀ o,w.frozen? ⟨k,o,none⟩=false):=
 ⟨cell_of_row _ _ _ _ _ _ h,cell_of_row _ _ _ _ _ _ h,cell_of_row _ _ _ _ _ _ h,cell_of_row _ _ _ _ _ _ h,(by grind[World.frozen?])⟩
theorem aEJ{k:Nat}{v0 a c d u0 u1 u2 u3:Value}(e:w.cell? ⟨k,0,none⟩=some v0)(f:w.cell? ⟨k,1,none⟩=some a)(h:w.cell? ⟨k,2,none⟩=some c)(i:w.cell? ⟨k,3,none⟩=some d):
 let W:=(((w.setCell ⟨k,0,none⟩ u0).setCell ⟨k,1,none⟩ u1).setCell ⟨k,2,none⟩ u2).setCell ⟨k,3,none⟩ u3
 W.cell? ⟨k,0,none⟩=some u0/\W.cell? ⟨k,1,none⟩=some u1/\W.cell? ⟨k,2,none⟩=some u2/\W.cell? ⟨k,3,none⟩=some u3:=by
 grind[eP]
theorem fG(T:List Tok)(g J b:Nat)(r:Rd)(k D:Nat)(O:List Int)(w:World)(h:RdW T g J b r w)(Z:bCN w k O)(hl:O.length<=100)(Y:aQ O 0=false):
 Calls prog 124 #[Qd b,Qe k O.length D] w fun e q=>e= .returned (cN T r O).g/\RdW T g J b (r.take T O) q/\Ex b w q:=by
 have c0:=h.c0;have c1:=h.c1;have t0:=h.tok0;have t1:=h.tok1;have t2:=h.tok2;have t3:=h.tok3;have a7:=h.gsize;have a5:=h.size;have a6:(T.length:Int)<=5000:=by have:=h.few;omega
 have a8:(r.b:Int) < (T.length:Int):=by have:=h.lt;omega
 generalize j:dD T r.b=t at*;have j:Hid (dD T r.b=t):=j;go_enter func124,ntmps124
 go_wp2;go_region
 go_wp2_with fail
 have l:=((h.alloc (Qf #[Qc 0,Qc 0,.string (ByteArray.mk #[]),Qc 0] 143)).alloc (Qf #[Qc t.d,Qc t.e,.string t.f,Qc t.a] 143)).drew;have F:bCN _ k O:=(Z.alloc (Qf #[Qc 0,Qc 0,.string (ByteArray.mk #[]),Qc 0] 143)).alloc (Qf #[Qc t.d,Qc t.e,.string t.f,Qc t.a] 143);have K:=(((Ex.refl b w).alloc (Qf #[Qc 0,Qc 0,.string (ByteArray.mk #[]),Qc 0] 143)).alloc (Qf #[Qc t.d,Qc t.e,.string t.f,Qc t.a] 143)).drew;refine(bMD T g J b r k D O _ l F hl).mono ?_;rintro e q ⟨rfl,n,rfl⟩;have i:=l.drewN n;have I:=K.drewN n;have hsz:(w.alloc (Qf #[Qc 0,Qc 0,.string (ByteArray.mk #[]),Qc 0] 143)).1.size=w.1.size+1:=Od
 have f:(((w.alloc (Qf #[Qc 0,Qc 0,.string (ByteArray.mk #[]),Qc 0] 143)).alloc (Qf #[Qc t.d,Qc t.e,.string t.f,Qc t.a] 143)).drew.drewN n).1[w.1.size]?=some (Qf #[Qc 0,Qc 0,.string (ByteArray.mk #[]),Qc 0] 143):=
  (On (by rw[hsz];omega)).t (Qk w _)
 have m:(((w.alloc (Qf #[Qc 0,Qc 0,.string (ByteArray.mk #[]),Qc 0] 143)).alloc (Qf #[Qc t.d,Qc t.e,.string t.f,Qc t.a] 143)).drew.drewN n).1[w.1.size+1]?=some (Qf #[Qc t.d,Qc t.e,.string t.f,Qc t.a] 143):=by
  have:=Qk (w.alloc (Qf #[Qc 0,Qc 0,.string (ByteArray.mk #[]),Qc 0] 143)) (Qf #[Qc t.d,Qc t.e,.string t.f,Qc t.a] 143);rw[hsz]at this;exact this
 clear l F K hsz c0 c1 t0 t1 t2 t3;generalize (((w.alloc (Qf #[Qc 0,Qc 0,.string (ByteArray.mk #[]),Qc 0] 143)).alloc (Qf #[Qc t.d,Qc t.e,.string t.f,Qc t.a] 143)).drew.drewN n)=W at*;have c1:=i.c1;have f1:=i.froz 1;obtain⟨R,S,U,V,X⟩:=dG f;obtain⟨L,M,N,P,Q⟩:=dG m;have a:w.1.size≠b:=Oa
 have d:w.1.size≠g:=Oa
 cases hs:aN T r O
 ·have p:Hid (r.take T O=r.fail T.length 2 t.e):=by unfold Hid Rd.take;rw[hs,j.o];rfl
  have o:Hid (cN T r O=aD6):=by unfold Hid cN;rw[hs];rfl
  go_wp2_with fail
  refine(aB4 T g J b r _ _ W i).mono ?_;rintro e w2 ⟨rfl,k7,G⟩;have k6:=(G.block w.1.size (Oo f) a).t f;obtain⟨z,A,B,C,c⟩:=dG k6;clear R S U V X L M N P Q;have a1:=c 0;have a2:=c 1;have a3:=c 2;have a4:=c 3;obtain⟨s,u,x,y⟩:=aEJ (u0:= Qc 0) (u1:= Qc 0) (u2:= .string (ByteArray.mk #[])) (u3:= Qc 0) z A B C;go_wp2;refine bodyPost_ret (v:=aD6.g) (by simp[results,results124,go_sem,s,u,x,y,aD6,Tok.g]) rfl ⟨by rw[o.o],?_,?_⟩
  ·rw[p.o];exact(((k7.setOther a d 0 _).setOther a d 1 _).setOther a d 2 _).setOther a d 3 _
  ·exact(((((I.t G).J Ol 0 _).J Ol 1 _).J Ol 2 _).J Ol 3 _)
 ·have p:Hid (r.take T O=r.step):=by unfold Hid Rd.take;rw[hs];rfl
  have o:Hid (cN T r O=t):=by unfold Hid cN;rw[hs,j.o];rfl
  have H:=i.setNext (r.b+1) (h.stepped hs Y);rw[Int.natCast_succ]at H;have g0:(W.setCell ⟨b,1,none⟩ (Qc (↑r.b+1))).1[w.1.size]?=_:=(Om a).t f;obtain⟨z,A,B,C,c⟩:=dG g0;have a1:=c 0;have a2:=c 1;have a3:=c 2;have a4:=c 3;have k8:w.1.size+1≠b:=Oa
  have E:(W.setCell ⟨b,1,none⟩ (Qc (↑r.b+1))).1[w.1.size+1]?=_:=(Om k8).t m;obtain⟨k0,k1,k2,k3,kf⟩:=dG E;obtain⟨s,u,x,y⟩:=aEJ (u0:= Qc t.d) (u1:= Qc t.e) (u2:= .string t.f) (u3:= Qc t.a) z A B C;clear g0 E R S U V X L M N P Q c kf f m;go_wp2;refine bodyPost_ret (v:=t.g) (by simp[results,results124,go_sem,s,u,x,y,Tok.g]) rfl ⟨by rw[o.o],?_,?_⟩
  ·rw[p.o];exact(((H.setOther a d 0 _).setOther a d 1 _).setOther a d 2 _).setOther a d 3 _
  ·exact(((((I.set 1 _).J Ol 0 _).J Ol 1 _).J Ol 2 _).J Ol 3 _)
end
section
variable {T:List Tok} {g J b:Nat} {r:Rd} {w w':World}
theorem bM(w:World)(O:List Int)(cs:Array Value)(h:cs.toList=O.map (Value.int .i64)):bCN (w.alloc (.cells cs 141)) w.1.size O:=fun i hi=>by
 rw[World.cell?_alloc_new];have a:cs[i]?=cs.toList[i]?:=Od
 simp[*]
theorem bCM{k:Nat}{a p x:Value}{t:TypeId}(h:w.1[k]?=some (Qf #[a,p,x] t)):
 w.cell? ⟨k,0,none⟩=some a/\w.cell? ⟨k,1,none⟩=some p/\w.cell? ⟨k,2,none⟩=some x/\(∀ o,w.frozen? ⟨k,o,none⟩=false):=
 ⟨cell_of_row _ _ _ _ _ _ h,cell_of_row _ _ _ _ _ _ h,cell_of_row _ _ _ _ _ _ h,(by grind[World.frozen?])⟩
theorem aIO{k:Nat}{v0 a c u0 u1 u2:Value}(d:w.cell? ⟨k,0,none⟩=some v0)(e:w.cell? ⟨k,1,none⟩=some a)(f:w.cell? ⟨k,2,none⟩=some c):
 let W:=((w.setCell ⟨k,0,none⟩ u0).setCell ⟨k,1,none⟩ u1).setCell ⟨k,2,none⟩ u2
 W.cell? ⟨k,0,none⟩=some u0/\W.cell? ⟨k,1,none⟩=some u1/\W.cell? ⟨k,2,none⟩=some u2:=by
 grind[eP]
def fV(x:ByteArray)(p:Int):Value:= .agg #[.string x,Qc p,Qc 0]
theorem tU(T:List Tok)(g J b:Nat)(r:Rd)(t:Tok)(w:World)(h:RdW T g J b r w)(l:0<=r.c/\r.c<=1000000):
 Calls prog 243 #[Qd b,t.g] w fun e i=>e= .returned (.tuple #[])/\RdW T g J b (r.M T.length t.e) i/\Ex b w i:=by
 rw[Tok.val_eq];obtain⟨p,q⟩:=l;have c2:=h.c2;have n:=h.froz 2;have o:=h.size;have a:=(h.setNest (r.c+1)).alloc (Qf #[Qc t.d,Qc t.e,.string t.f,Qc t.a] 143);have d:=((Ex.refl b w).set 2 (Qc (r.c+1))).alloc (Qf #[Qc t.d,Qc t.e,.string t.f,Qc t.a] 143);have m:=a.c2
 by_cases f:10 < r.c+1
 ·have c:Hid (r.M T.length t.e=Rd.fail T.length ⟨r.b,r.c+1,r.a,r.e⟩ 6 t.e):=if_pos f;go_enter func243,ntmps243
  go_wp2_with fail
  refine(aB4 T g J b _ _ _ _ a).mono ?_;rintro e s ⟨rfl,k,j⟩;go_wp2;go_end0
  exact⟨rfl,by rw[c.o];exact k,d.t j⟩
 ·have c:Hid (r.M T.length t.e=⟨r.b,r.c+1,r.a,r.e⟩):=if_neg f;go_enter func243,ntmps243
  go_wp2_with fail
  go_end0
  exact⟨rfl,by rw[c.o];exact a,d⟩
theorem Rd.take_nest(T:List Tok)(r:Rd)(O:List Int):(r.take T O).c=r.c:=by
 unfold Rd.take;split
 ·rfl
 grind[Rd.fail]
def Rd.B(T:List Tok)(r:Rd)(O:List Int):Rd:=(r.take T O).M T.length (cN T r O).e
def Rd.H(T:List Tok)(r:Rd)(k:Int):Rd:=⟨(r.take T [k]).b,(r.take T [k]).c - 1,(r.take T [k]).a,(r.take T [k]).e⟩
theorem uL(T:List Tok)(g J b:Nat)(r:Rd)(k a:Nat)(O:List Int)(w:World)(h:RdW T g J b r w)(m:bCN w k O)(n:O.length<=100)(i:aQ O 0=false)(o:0<=r.c/\r.c<=1000000):
 Calls prog 186 #[Qd b,Qe k O.length a] w fun e c=>e= .returned (.tuple #[])/\RdW T g J b (r.B T O) c/\Ex b w c:=by
 go_enter func186,ntmps186
 go_wp2_with fail
 refine(fG T g J b r k a O w h m n i).mono ?_;rintro e s ⟨rfl,j,d⟩;generalize p:cN T r O=q;rw[Tok.val_eq];go_wp2_with fail
 refine(tU T g J b (r.take T O) q s j (by rw[Rd.take_nest];exact o)).mono ?_;rintro e t ⟨rfl,l,f⟩;go_wp2;go_end0
 exact⟨rfl,by unfold Rd.B;rw[p];exact l,d.t f⟩
theorem nC(T:List Tok)(g J b:Nat)(r:Rd)(k:Int)(w:World)(h:RdW T g J b r w)(j:aQ [k] 0=false)(p:0<=r.c/\r.c<=1000000):
 Calls prog 188 #[Qd b,Qc k] w fun e c=>e= .returned (.tuple #[])/\RdW T g J b (r.H T k) c/\Ex b w c:=by
 have o:=bM w [k] #[Qc k] rfl;have l:=h.alloc (Qf #[Qc k] 141);have d:=(Ex.refl b w).alloc (Qf #[Qc k] 141);go_enter func188,ntmps188
 go_wp2_with fail
 refine(fG T g J b r w.1.size 1 [k] _ l o Od j).mono ?_;rintro e u ⟨rfl,a,f⟩;have n:0<=(r.take T [k]).c/\(r.take T [k]).c<=1000000:=by rw[Rd.take_nest];exact p
 obtain⟨s,t⟩:=n;have c2:=a.c2;have q:=a.froz 2;have m:=a.setNest ((r.take T [k]).c - 1);have i:=(d.t f).set 2 (Qc ((r.take T [k]).c - 1));go_wp2;go_end0
 exact⟨rfl,m,i⟩
theorem bCR(t:Tok)(w:World):
 Calls prog 242 #[t.g] w fun e a=>e= .returned (fV t.f t.e)/\Below w.1.size w a:=by
 rw[Tok.val_eq];go_enter func242,ntmps242
 go_wp2;refine bodyPost_ret (v:=fV t.f t.e) (by simp[results,results242,go_sem,fV]) rfl ⟨rfl,?_⟩;exact((Below.refl _ _).alloc Ol _).alloc Od _
theorem uM(T:List Tok)(g J b:Nat)(r:Rd)(w:World)(h:RdW T g J b r w):
 Calls prog 185 #[Qd b] w fun e k=>e= .returned (fV (cN T r [1]).f (cN T r [1]).e)/\RdW T g J b (r.take T [1]) k/\Ex b w k:=by
 have u:=(h.alloc (Qf #[.string (ByteArray.mk #[]),Qc 0,Qc 0] 100));have p:=((Ex.refl b w).alloc (Qf #[.string (ByteArray.mk #[]),Qc 0,Qc 0] 100));have K:=h.size;have L:=h.gsize;go_enter func185,ntmps185
 go_wp2_with fail
 have x:=u.alloc (Qf #[Qc 1] 141);have s:=p.alloc (Qf #[Qc 1] 141);have hsz:(w.alloc (Qf #[.string (ByteArray.mk #[]),Qc 0,Qc 0] 100)).1.size=w.1.size+1:=Od
 have j:=bM (w.alloc (Qf #[.string (ByteArray.mk #[]),Qc 0,Qc 0] 100)) [1] #[Qc 1] rfl;rw[hsz]at j
 have l:((w.alloc (Qf #[.string (ByteArray.mk #[]),Qc 0,Qc 0] 100)).alloc (Qf #[Qc 1] 141)).1[w.1.size]?=some (Qf #[.string (ByteArray.mk #[]),Qc 0,Qc 0] 100):=
  (On (by rw[hsz];omega)).t (Qk w _)
 generalize ((w.alloc (Qf #[.string (ByteArray.mk #[]),Qc 0,Qc 0] 100)).alloc (Qf #[Qc 1] 141))=n at*;refine(fG T g J b r (w.1.size+1) 1 [1] n x j Od Ob).mono ?_;rintro e o ⟨rfl,y,i⟩;have a:w.1.size≠b:=Oa
 have d:w.1.size≠g:=Oa
 have m:=(i.block w.1.size (Oo l) a).t l;generalize A:cN T r [1]=q;rw[Tok.val_eq];go_wp2_with fail
 refine(bCR q o).mono ?_;rintro e I ⟨rfl,c⟩;have z:=y.below c;have t:=(s.t i).t (Ex.of_below (b:=b) c);have H:=(c.block w.1.size (Oo m)).t m;obtain⟨E,F,G,f⟩:=bCM H;have M:=f 0;have N:=f 1;have O:=f 2;obtain⟨B,C,D⟩:=aIO (u0:= .string q.f) (u1:= Qc q.e) (u2:= Qc 0) E F G;unfold fV;go_wp2;refine bodyPost_ret (v:=fV q.f q.e) (by simp[results,results185,go_sem,fV,B,C,D]) rfl ⟨by rw[A],?_,?_⟩
 ·exact((z.setOther a d 0 _).setOther a d 1 _).setOther a d 2 _
 ·exact((t.J Ol 0 _).J Ol 1 _).J Ol 2 _
end
end Go.Proofs.YtikffmloeifkpaaGreatDoor
