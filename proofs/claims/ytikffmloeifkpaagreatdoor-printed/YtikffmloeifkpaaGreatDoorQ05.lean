/- Contracts. -/
import Derived.Test.YtikffmloeifkpaaGreatDoorQ04
import Derived.Deep.Onto
set_option maxHeartbeats 2000000
set_option maxRecDepth 100000
namespace Go.Proofs.YtikffmloeifkpaaGreatDoor
section
open Go.RowKit Go.Lib
theorem eV.iterAt{B b:Nat}{c:Cut}{v:Value}{w:World}(h:eV B b c v w){k:Nat}{s:ByteArray}{pos:Nat}(hk:w.heap[k]?=some (.stringIter s pos))(hb:b≠k)(pos':Nat):eV B b c v (w.iterAt k s pos'):=by
 refine h.kept (iterAt_other w k b s pos' hb) ⟨h.own.1,?_⟩;rcases h.own.2 with h2|⟨g,cap,cur,hv,hg,hh,r⟩
 ·exact Or.inl h2
 ·have h0:g≠k:=by
   intro e1;rw[e1,hk]at hh;cases hh
  exact Or.inr ⟨g,cap,cur,hv,hg,(iterAt_other w k g s pos' h0).trans hh,r⟩
theorem dQ{w:World}{b:Nat}{v0 v1 u0 u1:Value}(h0:w.cell? ⟨b,0,none⟩=some v0)(h1:w.cell? ⟨b,1,none⟩=some v1):
 ((w.setCell ⟨b,0,none⟩ u0).setCell ⟨b,1,none⟩ u1).cell? ⟨b,0,none⟩=some u0/\((w.setCell ⟨b,0,none⟩ u0).setCell ⟨b,1,none⟩ u1).cell? ⟨b,1,none⟩=some u1:=by
 have e1:(w.setCell ⟨b,0,none⟩ u0).cell? ⟨b,1,none⟩=some v1:=by rw[eP h0];exact h1
 exact⟨by rw[eP e1,Oh,eP h0];rfl,by rw[eP e1];rfl⟩
theorem aBP{w:World}(h:Tab w):0 < w.heap.size:=Qg w _ (h 0 Oa)
theorem aP4(s:ByteArray)(w:World)(hz:4000 < s.size)(hm:s.size<=maxLen):
 Calls Tryz.prog 41 #[.string s] w fun e w'=>e= .returned (.tuple #[.slice none 0 0,.agg #[.int .i64 1,.int .i64 0]])/\Below w.heap.size w w':=by
 unfold maxLen at hm;have hz':(4000:Int) < (s.size:Int):=Oa
 go_enter Tryz.func41,Tryz.ntmps41
 go_wp2;refine bodyPost_ret (v:= .tuple #[.slice none 0 0,.agg #[.int .i64 1,.int .i64 0]]) (by simp[results,Tryz.results41,go_sem]) rfl ⟨rfl,?_⟩;exact(Below.refl _ _).alloc Ol _
structure aFC(s:ByteArray)(w:World)(p:Nat)(c:Cut)(v:Value)(wr:World):Prop where
 cut:eV (w.heap.size+2) (w.heap.size+1) c v wr
 iter:wr.heap[w.heap.size+1+1]?=some (.stringIter s p)
 out:wr.heap[w.heap.size]?=some (.cells #[.int .i64 0,.int .i64 0] 37 (0,0))
 below:Below w.heap.size w wr
 text:c.text=s
 good:c.code=0
 fine:vL c p
 run:∃ n,s.size+1<=n+p/\dN s=c.run n p
theorem aFC.start(s:ByteArray)(w:World):aFC s w 0 ⟨s,[],0,0,0,0⟩ (.slice none 0 0)
 (((w.alloc (.cells #[.int .i64 0,.int .i64 0] 37)).alloc (.cells #[.string s,.slice none 0 0,.int .i64 0,.int .i64 0,.int .i64 0,.int .i64 0] 138)).iter s 0):=by
 have e1:(w.alloc (.cells #[.int .i64 0,.int .i64 0] 37)).heap.size=w.heap.size+1:=Od
 have e2:((w.alloc (.cells #[.int .i64 0,.int .i64 0] 37)).alloc (.cells #[.string s,.slice none 0 0,.int .i64 0,.int .i64 0,.int .i64 0,.int .i64 0] 138)).heap.size=w.heap.size+1+1:=Od
 generalize hA:w.alloc (.cells #[.int .i64 0,.int .i64 0] 37)=A at*;generalize hC:A.alloc (.cells #[.string s,.slice none 0 0,.int .i64 0,.int .i64 0,.int .i64 0,.int .i64 0] 138)=C at*;have h2:C.heap[w.heap.size+1]?=some (.cells #[.string s,.slice none 0 0,.int .i64 0,.int .i64 0,.int .i64 0,.int .i64 0] 138 (0,0)):=by rw[<-hC,<-e1];exact Qb A _
 have h1:(C.iter s 0).heap[w.heap.size+1]?=some (.cells #[.string s,.slice none 0 0,.int .i64 0,.int .i64 0,.int .i64 0,.int .i64 0] 138 (0,0)):=(Below.heap_alloc C _ _ Oa).trans h2;have h0:∀ o,(C.iter s 0).cell? ⟨w.heap.size+1,o,none⟩=(#[.string s,.slice none 0 0,.int .i64 0,.int .i64 0,.int .i64 0,.int .i64 0]:Array Value)[o]?:=fun o=>cell_of_row _ _ _ _ _ _ h1;refine⟨⟨h0 0,h0 1,h0 2,h0 3,h0 4,h0 5,fun o=>?_,World.ownsRow_nil _ _ _ _,Oa⟩,?_,?_,?_,rfl,rfl,vL.start s,⟨s.size+1,Oa,rfl⟩⟩
 ·simp[World.frozen?,h1]
 ·rw[<-e2];exact World.iter_heap C s 0
 ·refine(Below.heap_alloc C _ _ Oa).trans ?_;rw[<-hC];refine(Below.heap_alloc A _ _ Oa).trans ?_;rw[<-hA];exact Qb w _
 ·have b1:Below w.heap.size w A:=by rw[<-hA];exact(Below.refl _ _).alloc Ol _
  have b2:Below w.heap.size w C:=by rw[<-hC];exact b1.alloc Oa _
  exact b2.alloc Oa _
theorem aFC.moved{s:ByteArray}{w wr:World}{p:Nat}{c:Cut}{v:Value}(h:aFC s w p c v wr)(q:Nat):eV (w.heap.size+2) (w.heap.size+1) c v (wr.iterAt (w.heap.size+1+1) s q)/\
 (wr.iterAt (w.heap.size+1+1) s q).heap[w.heap.size+1+1]?=some (.stringIter s q)/\(wr.iterAt (w.heap.size+1+1) s q).heap[w.heap.size]?=some (.cells #[.int .i64 0,.int .i64 0] 37 (0,0))/\
 Below w.heap.size w (wr.iterAt (w.heap.size+1+1) s q):=
 ⟨h.cut.iterAt h.iter Oa q,iterAt_heap _ _ _ _ _ h.iter,(iterAt_other _ _ _ _ _ Oa).trans h.out,below_iterAt h.below Oa _ _⟩
theorem aRH(s:ByteArray)(w:World)(ht:Tab w)(hz:s.size<=4000):
 Calls Tryz.prog 41 #[.string s] w fun e w'=>Below w.heap.size w w'/\
  (((dN s).code≠0/\e= .returned (.tuple #[.slice none 0 0,.agg #[.int .i64 (dN s).code,.int .i64 (dN s).pos]]))\/
   ((dN s).code=0/\∃ g cap,e= .returned (.tuple #[.slice (some ⟨g,0,none⟩) ((dN s).words.length+1) cap,.agg #[.int .i64 0,.int .i64 0]])/\
    w'.ownsRow w.heap.size 143 4 (.slice (some ⟨g,0,none⟩) ((dN s).words.length+1) cap) ((dN s).words.length+1) (fJ ((dN s).words++[⟨0,s.size,ByteArray.mk #[],0⟩])))):=by
 have h0:=aBP ht;have z6: ¬(4000:Int) < (s.size:Int):=Oa
 go_enter Tryz.func41,Tryz.ntmps41
 go_wp2;go_loopw [] (fun wr=>∃ (p:Nat) (c:Cut) (v:Value),aFC s w p c v wr) (fun wr=>s.size - wr.iterPos (w.heap.size+1+1))
 case atStart=>exact⟨0,_,_,aFC.start s w⟩
 case round=>
  obtain⟨p,c,v,hL⟩:=hrel;have k9:Tab wr:=ht.below hL.below h0;have h4:=hL.fine;have h3:=hL.text
  by_cases hp:p < s.size
  ·have y9:=fun ty=>run_next_any_at (P:=Tryz.prog) wr (w.heap.size+1+1) s p ty hL.iter hp;obtain⟨m1,m2,m3,m4⟩:=hL.moved (p+(Utf8.decode s p).2);have k6:wr.iterPos (w.heap.size+1+1)=p:=by simp[World.iterPos,hL.iter]
   have hwd:=Lib.decode_width_pos s p hp;go_wp2_with fail
   have y7:Tab (wr.iterAt (w.heap.size+1+1) s (p+(Utf8.decode s p).2)):=ht.below m4 h0;have hsz1:(wr.iterAt (w.heap.size+1+1) s (p+(Utf8.decode s p).2)).iterPos (w.heap.size+1+1)=p+(Utf8.decode s p).2:=by simp[World.iterPos,m2]
   clear y9;generalize wr.iterAt (w.heap.size+1+1) s (p+(Utf8.decode s p).2)=W1 at*;refine(aGB _ _ c v p _ W1 m1 y7 (by rw[h3];omega) (by rw[h3];omega) ⟨h4.lo,h4.hi⟩).mono ?_;rintro e W2 ⟨rfl,k5,k8⟩;have i2:=k8.others.iter m2 Oa;have o2:=(k8.below.block w.heap.size Oa).trans m3;have b2:=m4.trans (k8.below.mono (Nat.le_succ _));have t2:Tab W2:=ht.below b2 h0;have y6:w.heap.size+2<=W2.heap.size:=by have:=(Oo i2);omega
   have y4:c.words.length<=5000:=by have:=h4.count;have:=h4.hi;omega
   obtain⟨n,hn,h5⟩:=hL.run;obtain⟨n,rfl⟩:∃ m,n=m+1:=⟨n - 1,Oa⟩;cases hg:c.goes p (Utf8.decode s p).1
   ·have k0:c.step p (Utf8.decode s p).1=(c.finish p).begins p (Utf8.decode s p).1:=by unfold Cut.step;rw[hg];rfl
    go_wp2_with fail
    refine(zP _ _ c v p W2 k5 t2 Oa y6 y4 (by rw[h3];omega) (by rw[h3];omega) ⟨h4.lo,h4.hi⟩ h4.digits).mono ?_;rintro e W3 ⟨rfl,⟨v3,k4⟩,h9⟩;have i3:=h9.others.iter i2 Oa;have o3:=(h9.below.block w.heap.size Oa).trans o2;have b3:=b2.trans (h9.below.mono (Nat.le_succ _));have t3:Tab W3:=ht.below b3 h0;go_wp2_with fail
    refine(aKX _ _ _ v3 p _ W3 k4 t3 Oa).mono ?_;rintro e W4 ⟨rfl,k3,y5⟩;have i4:=y5.others.iter i3 Oa;have o4:=(y5.below.block w.heap.size Oa).trans o3;have b4:=b3.trans (y5.below.mono (Nat.le_succ _));rw[<-k0]at k3;clear k8 h9 y5 k5 k4 i2 i3 o2 o3 t2 t3 y7 k9 m1 m2 m3 k0;have g2:=k3.code
    by_cases h1:(c.step p (Utf8.decode s p).1).code=0
    ·have h2:=vL.step (c:=c) (p:=p) h4 (by rw[h3];exact hp) (by rw[h3];exact h1);rw[h3]at h2
     have z2:aFC s w (p+(Utf8.decode s p).2) (c.step p (Utf8.decode s p).1) v3 W4:=by
      refine⟨k3,i4,o4,b4,h2.2,h1,h2.1,n,Oa,?_⟩;rw[h5];show(if p < c.text.size then _ else _)=_;rw[h3,if_pos hp,if_neg (by simpa using h1)]
     rw[h1]at g2;have z7:W4.iterPos (w.heap.size+1+1)=p+(Utf8.decode s p).2:=by simp[World.iterPos,i4]
     clear hL h2 h5 h1 k3 h3 h4;go_wp2_with fail
     go_roundw
     case rel=>exact⟨_,_,_,z2⟩
     case measure=>rw[z7,k6];omega
    ·have g3:=k3.pos
     have h7:Hid (dN s=c.step p (Utf8.decode s p).1):=by
      unfold Hid;rw[h5];show(if p < c.text.size then _ else _)=_;rw[h3,if_pos hp,if_pos (by simpa using h1)]
     have k2:((c.step p (Utf8.decode s p).1).code !=0)=true:=by simpa using h1
     have q0:W4.cell? ⟨w.heap.size,0,none⟩=some (.int .i64 0):=Og o4 rfl
     have q1:W4.cell? ⟨w.heap.size,1,none⟩=some (.int .i64 0):=Og o4 rfl
     have z0:∀ o,W4.frozen? ⟨w.heap.size,o,none⟩=false:=fun o=>by simp[World.frozen?,o4]
     have z1:=k3.thawed;generalize c.step p (Utf8.decode s p).1=C at*;clear hL h5 k3 h3 h4;go_wp2_with fail
     go_region
     all_goals go_wp2
     obtain⟨x0,x1⟩:=dQ (w:=W4) (u0:= .int .i64 C.code) (u1:= .int .i64 C.pos) q0 q1
     all_goals (refine bodyPost_ret (v:= .tuple #[.slice none 0 0,.agg #[.int .i64 C.code,.int .i64 C.pos]]) (by simp[results,Tryz.results41,go_sem,x0,x1]) rfl ⟨?_,Or.inl ⟨?_,?_⟩⟩)
     all_goals first|(rw[h7.out];exact h1)|(rw[h7.out])|exact(Qm (Qm b4 Ol _) Ol _).drew
   ·have k0:c.step p (Utf8.decode s p).1=c:=by unfold Cut.step;rw[hg];rfl
    have h2:=vL.step (c:=c) (p:=p) h4 (by rw[h3];exact hp) (by rw[h3,k0];exact hL.good);rw[h3,k0]at h2
    have z2:aFC s w (p+(Utf8.decode s p).2) c v W2:=by
     refine⟨k5,i2,o2,b2,h3,hL.good,h2.1,n,Oa,?_⟩;rw[h5];show(if p < c.text.size then _ else _)=_;rw[h3,if_pos hp,k0,if_neg (by simpa using hL.good)]
    have y8:W2.iterPos (w.heap.size+1+1)=p+(Utf8.decode s p).2:=by simp[World.iterPos,i2]
    clear hL h2 h5 k5 h3 h4 k8 i2 o2 t2 y7 k9 m1 m2 m3 k0;go_wp2_with fail
    go_roundw
    case rel=>exact⟨_,_,_,z2⟩
    case measure=>rw[y8,k6];omega
  ·have y8:p=s.size:=by have:=h4.le;rw[h3]at this;omega
   subst y8;have y9:=fun ty=>run_next_end_at (P:=Tryz.prog) wr (w.heap.size+1+1) s s.size ty hL.iter Oa;have k5:=hL.cut;have o2:=hL.out;have b2:=hL.below;have y6:w.heap.size+2<=wr.heap.size:=by have:=(Oo hL.iter);omega
   have y4:c.words.length<=5000:=by have:=h4.count;have:=h4.hi;omega
   obtain⟨n,hn,h5⟩:=hL.run;obtain⟨n,rfl⟩:∃ m,n=m+1:=⟨n - 1,Oa⟩
   have h7:Hid (dN s=c.finish s.size):=by
    unfold Hid;rw[h5];show(if s.size < c.text.size then _ else _)=_;rw[h3,Oh]
   go_wp2_with fail
   clear y9;refine(zP _ _ c v s.size wr k5 k9 Oa y6 y4 (by rw[h3];omega) (by rw[h3];omega) ⟨h4.lo,h4.hi⟩ h4.digits).mono ?_;rintro e W3 ⟨rfl,⟨v3,k4⟩,h9⟩;have o3:=(h9.below.block w.heap.size Oa).trans o2;have b3:=b2.trans (h9.below.mono (Nat.le_succ _));have hB3:w.heap.size+2<=W3.heap.size:=Qd y6 h9.below.size
   have hw3:(c.finish s.size).words.length<=5000:=by
    have:=h4.count;have:=h4.hi;rcases(c.finish_keeps s.size).2.2.2 with h|⟨_,h⟩<;>omega
   clear hL h9 k5 o2 k9 h5 h3 h4 y4;have g2:=k4.code;have g3:=k4.pos;have q0:W3.cell? ⟨w.heap.size,0,none⟩=some (.int .i64 0):=Og o3 rfl
   have q1:W3.cell? ⟨w.heap.size,1,none⟩=some (.int .i64 0):=Og o3 rfl
   have z0:∀ o,W3.frozen? ⟨w.heap.size,o,none⟩=false:=fun o=>by simp[World.frozen?,o3]
   by_cases h1:(c.finish s.size).code=0
   ·rw[h1]at g2;obtain⟨i0,z8,z5,z4,z3⟩:=info_parts Tryz.info143;have h8:=k4.own;have l3:w.heap.size < W3.heap.size:=Oa
    have p1:=k4.wordsAt;have ag:some w.heap.size≠v3.ownBlock:=fun e=>by have:=(h8.lt _ e.symm).1;omega
    have hz0':=hz;clear z6;generalize c.finish s.size=C at*;go_wp2_with (at_builtin;refine wpList_append_lies _ rfl _ _ 85 rfl (w.heap.size+2) 143 i0 _ 4 40 Tryz.underlying85 z8 z5 z4 z3 rfl Oa v3 C.words.length (fJ C.words) rfl (h8.alloc _) ⟨W3.heap.size,0,none⟩ 1 1 (Tok.cells ⟨0,s.size,ByteArray.mk #[],0⟩) rfl rfl (World.news_of_block (cs:=#[.int .i64 0,.int .i64 s.size,.string (ByteArray.mk #[]),.int .i64 0]) (t:=143) (fr:=(0,0)) (Qb W3 _)) (by simp[Tok.cells,Value.oneCell']) Oa (by unfold maxLen;omega) Oa (by simp;omega) (W3.heap.size+1) Od ?_;intro gg cap w1 k7 k1 hat hlt;have h6:=zI k1;have y0:=(h6.cell_far ⟨w.heap.size,0,none⟩ (kO l3) ag).trans (sS l3 q0);have y1:=(h6.cell_far ⟨w.heap.size,1,none⟩ (kO l3) ag).trans (sS l3 q1);have y2:=(h6.frozen_far ⟨w.heap.size,0,none⟩ (kO l3) ag).trans (xB l3 (z0 0));have y3:=(h6.frozen_far ⟨w.heap.size,1,none⟩ (kO l3) ag).trans (xB l3 (z0 1)))
    obtain⟨x0,x1⟩:=dQ (u0:= .int .i64 0) (u1:= .int .i64 0) y0 y1;refine bodyPost_ret (v:= .tuple #[.slice (some ⟨gg,0,none⟩) (C.words.length+1) cap,.agg #[.int .i64 0,.int .i64 0]]) (by simp[results,Tryz.results41,go_sem,x0,x1]) rfl ⟨?_,Or.inr ⟨?_,gg,cap,?_,?_⟩⟩
    ·refine Qm (Qm (Below.grown (b3.alloc Oa _).drew h6 (by show _<=(W3.alloc _).heap.size;simp;omega) (fun k hk=>?_)) Ol _) Ol _;have:=(h8.lt k hk).1;omega
    ·rw[h7.out];exact h1
    ·rw[h7.out]
    ·rw[h7.out,bD2];exact World.ownsRow.mono (ownsRow_setCell_below (ownsRow_setCell_below k7 (by show w.heap.size < _;omega) _) (by show w.heap.size < _;omega) _) Oa
   ·have k2:((c.finish s.size).code !=0)=true:=by simpa using h1
    generalize c.finish s.size=C at*;go_wp2_with fail
    go_region
    all_goals go_wp2
    obtain⟨x0,x1⟩:=dQ (w:=W3) (u0:= .int .i64 C.code) (u1:= .int .i64 C.pos) q0 q1
    all_goals (refine bodyPost_ret (v:= .tuple #[.slice none 0 0,.agg #[.int .i64 C.code,.int .i64 C.pos]]) (by simp[results,Tryz.results41,go_sem,x0,x1]) rfl ⟨?_,Or.inl ⟨?_,?_⟩⟩)
    all_goals first|(rw[h7.out];exact h1)|(rw[h7.out])|exact(Qm (Qm b3 Ol _) Ol _).drew
structure Ex(b:Nat)(w w':World):Prop where
 os:w'.os=w.os
 tape:w'.tape=w.tape
 output:w'.output=w.output
 size:w.heap.size<=w'.heap.size
 block:∀ k,k < w.heap.size->k≠b->w'.heap[k]?=w.heap[k]?
theorem Ex.refl(b:Nat)(w:World):Ex b w w:=⟨rfl,rfl,rfl,Qc _,fun _ _ _=>rfl⟩
theorem Ex.trans{b:Nat}{u v w:World}(h:Ex b u v)(k:Ex b v w):Ex b u w:=
 ⟨k.os.trans h.os,k.tape.trans h.tape,k.output.trans h.output,Qd h.size k.size,fun i hi hb=>(k.block i (Nat.lt_of_lt_of_le hi h.size) hb).trans (h.block i hi hb)⟩
theorem Ex.alloc{b:Nat}{u w:World}(h:Ex b u w)(o:Obj):Ex b u (w.alloc o):=
 h.trans ⟨rfl,rfl,rfl,Od,fun k hk _=>On hk⟩
theorem Ex.drew{b:Nat}{u w:World}(h:Ex b u w):Ex b u w.drew:=⟨h.os,h.tape,h.output,h.size,h.block⟩
theorem Ex.drewN{b:Nat}{u w:World}(h:Ex b u w)(n:Nat):Ex b u (w.drewN n):=⟨h.os,h.tape,h.output,h.size,h.block⟩
theorem Ex.set{b:Nat}{u w:World}(h:Ex b u w)(o:Nat)(v:Value):Ex b u (w.setCell ⟨b,o,none⟩ v):=
 h.trans ⟨rfl,rfl,rfl,by simp[World.setCell],fun k _ hb=>Om hb⟩
theorem Ex.setNew{b:Nat}{u w:World}(h:Ex b u w){k:Nat}(hk:u.heap.size<=k)(o:Nat)(v:Value):Ex b u (w.setCell ⟨k,o,none⟩ v):=
 ⟨h.os,h.tape,h.output,Qd h.size (by simp[World.setCell]),fun i hi hb=>(Om (by show i≠k;omega)).trans (h.block i hi hb)⟩
theorem Ex.of_below{b:Nat}{w w':World}(h:Below w.heap.size w w'):Ex b w w':=⟨h.os,h.tape,h.output,h.size,fun k hk _=>h.block k hk⟩
theorem Ex.grown{b:Nat}{u w w':World}{row:Option Nat}(h:Ex b u w)(hg:w.grownBy w' row)(hr:∀ k,row=some k->u.heap.size<=k):Ex b u w':=
 ⟨hg.os.trans h.os,hg.tape.trans h.tape,hg.output.trans h.output,Qd h.size hg.size,fun k hk hb=>(hg.block k (Nat.lt_of_lt_of_le hk h.size) (fun e=>by have:=hr k e.symm;omega)).trans (h.block k hk hb)⟩
theorem Ex.below{b:Nat}{w w':World}(h:Ex b w w')(hb:w.heap.size<=b):Below w.heap.size w w':=⟨h.os,h.tape,h.output,h.size,fun k hk=>h.block k hk Oa⟩
def Tok.val(t:Tok):Value:= .agg #[.int .i64 t.kind,.int .i64 t.pos,.string t.text,.int .i64 t.value]
def aD6:Tok:=⟨0,0,ByteArray.mk #[],0⟩
structure Rd where
 next:Nat
 nest:Int
 code:Int
 pos:Int
def xP(n g cap:Nat)(r:Rd):Array Value:=#[.slice (some ⟨g,0,none⟩) n cap,.int .i64 r.next,.int .i64 r.nest,.int .i64 r.code,.int .i64 r.pos]
structure RdW(T:List Tok)(g cap b:Nat)(r:Rd)(w:World):Prop where
 blk:w.heap[b]?=some (.cells (xP T.length g cap r) 145 (0,0))
 row:∃ cur,w.heap[g]?=some (.cells cur 143 (0,0))/\cur.toList.take (T.length*4)=fJ T
 cap_:T.length<=cap
 few:T.length<=5000
 lt:r.next < T.length
 last:(T.getD (T.length - 1) aD6).kind=0
 vals:∀ t∈T,0<=t.value/\t.value<=999999999
variable {T:List Tok} {g cap b:Nat} {r:Rd} {w w':World}
theorem RdW.cell(h:RdW T g cap b r w)(o:Nat):w.cell? ⟨b,o,none⟩=(xP T.length g cap r)[o]?:=cell_of_row _ _ _ _ _ _ h.blk
theorem RdW.froz(h:RdW T g cap b r w)(o:Nat):w.frozen? ⟨b,o,none⟩=false:=by simp[World.frozen?,h.blk]
theorem RdW.size(h:RdW T g cap b r w):b < w.heap.size:=(Oo h.blk)
theorem RdW.gsize(h:RdW T g cap b r w):g < w.heap.size:=by obtain⟨cur,hc,_⟩:=h.row;exact(Oo hc)
theorem RdW.ne(h:RdW T g cap b r w):g≠b:=by
 obtain⟨cur,hc,_⟩:=h.row;intro e;rw[e,h.blk]at hc;cases hc
theorem RdW.c0(h:RdW T g cap b r w):w.cell? ⟨b,0,none⟩=some (.slice (some ⟨g,0,none⟩) T.length cap):=h.cell 0
theorem RdW.c1(h:RdW T g cap b r w):w.cell? ⟨b,1,none⟩=some (.int .i64 r.next):=h.cell 1
theorem RdW.c2(h:RdW T g cap b r w):w.cell? ⟨b,2,none⟩=some (.int .i64 r.nest):=h.cell 2
theorem RdW.c3(h:RdW T g cap b r w):w.cell? ⟨b,3,none⟩=some (.int .i64 r.code):=h.cell 3
theorem RdW.c4(h:RdW T g cap b r w):w.cell? ⟨b,4,none⟩=some (.int .i64 r.pos):=h.cell 4
theorem aM{b o:Nat}{cs:Array Value}{t:TypeId}(v:Value)(h:w.heap[b]?=some (.cells cs t (0,0))):(w.setCell ⟨b,o,none⟩ v).heap[b]?=some (.cells (cs.setIfInBounds o v) t (0,0)):=by
 simp[World.setCell,Array.getElem?_modify,h]
theorem RdW.write(h:RdW T g cap b r w)(o:Nat)(v:Value){r':Rd}(hr:(xP T.length g cap r).setIfInBounds o v=xP T.length g cap r')(hl:r'.next < T.length):RdW T g cap b r' (w.setCell ⟨b,o,none⟩ v):=by
 refine⟨by rw[aM v h.blk,hr],?_,h.cap_,h.few,hl,h.last,h.vals⟩;obtain⟨cur,hc,ht⟩:=h.row;exact⟨cur,(Om h.ne).trans hc,ht⟩
theorem RdW.setNext(h:RdW T g cap b r w)(m:Nat)(hm:m < T.length):RdW T g cap b {r with next:=m} (w.setCell ⟨b,1,none⟩ (.int .i64 m)):=h.write 1 _ rfl hm
theorem RdW.setNest(h:RdW T g cap b r w)(m:Int):RdW T g cap b {r with nest:=m} (w.setCell ⟨b,2,none⟩ (.int .i64 m)):=h.write 2 _ rfl h.lt
theorem RdW.setCode(h:RdW T g cap b r w)(m:Int):RdW T g cap b {r with code:=m} (w.setCell ⟨b,3,none⟩ (.int .i64 m)):=h.write 3 _ rfl h.lt
theorem RdW.setPos(h:RdW T g cap b r w)(m:Int):RdW T g cap b {r with pos:=m} (w.setCell ⟨b,4,none⟩ (.int .i64 m)):=h.write 4 _ rfl h.lt
theorem RdW.move(h:RdW T g cap b r w)(hb:w'.heap[b]?=w.heap[b]?)(hg:w'.heap[g]?=w.heap[g]?):RdW T g cap b r w':=by
 obtain⟨cur,hc,ht⟩:=h.row;exact⟨hb.trans h.blk,⟨cur,hg.trans hc,ht⟩,h.cap_,h.few,h.lt,h.last,h.vals⟩
theorem RdW.setOther(h:RdW T g cap b r w){k:Nat}(hb:k≠b)(hg:k≠g)(o:Nat)(v:Value):RdW T g cap b r (w.setCell ⟨k,o,none⟩ v):=
 h.move (Om (Ne.symm hb)) (Om (Ne.symm hg))
theorem RdW.alloc(h:RdW T g cap b r w)(o:Obj):RdW T g cap b r (w.alloc o):=h.move (On h.size) (On h.gsize)
theorem RdW.drew(h:RdW T g cap b r w):RdW T g cap b r w.drew:=h.move rfl rfl
theorem RdW.drewN(h:RdW T g cap b r w)(n:Nat):RdW T g cap b r (w.drewN n):=h.move rfl rfl
theorem RdW.below(h:RdW T g cap b r w)(hb:Below w.heap.size w w'):RdW T g cap b r w':=h.move (hb.block b h.size) (hb.block g h.gsize)
theorem aF0(l:List Tok):∀ i t,l[i]?=some t->∀ j,j < 4->(fJ l)[i*4+j]?=t.cells[j]?:=by
 induction l with
 |nil=>intro i t h;simp at h
 |cons x l ih=>
  intro i t h j hj;have hx:(fJ (x::l))=x.cells++fJ l:=rfl;have h0:x.cells.length=4:=rfl;rw[hx];cases i with
  |zero=>
   simp at h;subst h;rw[List.getElem?_append_left Oa];simp
  |succ i=>
   rw[List.getElem?_append_right Oa,h0,show(i+1)*4+j - 4=i*4+j from by omega];exact ih i t (by simpa using h) j hj
theorem RdW.tok(h:RdW T g cap b r w){i:Nat}{t:Tok}(ht:T[i]?=some t)(j:Nat)(hj:j < 4):w.cell? ⟨g,i*4+j,none⟩=t.cells[j]?:=by
 obtain⟨cur,hc,h0⟩:=h.row;have hi:i < T.length:=(List.getElem?_eq_some_iff.1 ht).1;have h1:=aF0 T i t ht j hj;rw[<-h0,List.getElem?_take,if_pos Oa]at h1;rw[cell_of_row _ _ _ _ _ _ hc,<-h1];simp
def dD(T:List Tok)(i:Nat):Tok:=T.getD i aD6
theorem lJ{i:Nat}(h:i < T.length):T[i]?=some (dD T i):=by
 simp[dD,List.getD,h]
theorem RdW.tok0(h:RdW T g cap b r w):w.cell? ⟨g,r.next*4,none⟩=some (.int .i64 (dD T r.next).kind):=h.tok (lJ h.lt) 0 Oa
theorem RdW.tok1(h:RdW T g cap b r w):w.cell? ⟨g,r.next*4+1,none⟩=some (.int .i64 (dD T r.next).pos):=h.tok (lJ h.lt) 1 Oa
theorem RdW.tok2(h:RdW T g cap b r w):w.cell? ⟨g,r.next*4+2,none⟩=some (.string (dD T r.next).text):=h.tok (lJ h.lt) 2 Oa
theorem RdW.tok3(h:RdW T g cap b r w):w.cell? ⟨g,r.next*4+3,none⟩=some (.int .i64 (dD T r.next).value):=h.tok (lJ h.lt) 3 Oa
def bCN(w:World)(k:Nat)(ks:List Int):Prop:=∀ i,i < ks.length->w.cell? ⟨k,i,none⟩=some (.int .i64 (ks.getD i 0))
def aQ(ks:List Int)(v:Int):Bool:=ks.contains v
def Idx(ks:List Int)(v n:Int):Prop:=decide (0<=n)=aQ ks v
theorem Idx.yes{ks:List Int}{v:Int}{n:Nat}(hn:n < ks.length)(h:ks.getD n 0=v):Idx ks v n:=by
 have hm:v∈ks:=by
  rw[List.getD_eq_getElem?_getD,List.getElem?_eq_getElem hn]at h;exact h ▸ List.getElem_mem hn
 unfold Idx aQ;rw[List.contains_iff_mem.2 hm];exact decide_eq_true Oa
theorem Idx.no{ks:List Int}{v:Int}(h:∀ j,j < ks.length->ks.getD j 0≠v):Idx ks v (-1):=by
 have hm: ¬v∈ks:=by
  intro hv;obtain⟨j,hj,e⟩:=List.getElem_of_mem hv;refine h j hj ?_;rw[List.getD_eq_getElem?_getD,List.getElem?_eq_getElem hj];exact e
 unfold Idx aQ;rw[Bool.eq_false_iff.2 (fun e=>hm (List.contains_iff_mem.1 e))];rfl
theorem aL3(k cp:Nat)(ks:List Int)(v:Int)(w:World)(h:bCN w k ks)(hl:ks.length<=100):
 Calls Tryz.prog 241 #[.slice (some ⟨k,0,none⟩) ks.length cp,.int .i64 v] w fun e w'=>(∃ n:Int,e= .returned (.int .i64 n)/\Idx ks v n)/\w=w':=by
 go_enter Tryz.func241,Tryz.ntmps241
 go_wp2;go_loop [8] (fun i=>∃ n:Nat,n<=ks.length/\i= .int .i64 n/\∀ j,j < n->ks.getD j 0≠v) (fun i=>ks.length - (RowKit.intOf i).toNat)
 case atStart=>exact⟨0,Oa,rfl,fun j hj=>Oa⟩
 case round=>
  obtain⟨n,hn,rfl,h0⟩:=hrel;have HN:Hid (∀ j,j < n->ks.getD j 0≠v):=h0;clear h0
  by_cases h2:n < ks.length
  ·have hc:=h n h2;generalize hx:ks.getD n 0=x at hc;have HX:Hid (ks.getD n 0=x):=hx;clear hx
   by_cases he:v=x
   ·subst he;go_wp2;go_ret;exact⟨⟨n,rfl,Idx.yes h2 HX.out⟩,rfl⟩
   ·have he':(v==x)=false:=by simpa using he
    go_wp2;go_round
    case rel=>exact⟨n+1,Oa,by go_num,fun j hj=>by
     rcases Qk j n with h1|h1;exact HN.out j h1;obtain rfl:j=n:=Oa
     rw[HX.out];exact fun e=>he e.symm⟩
    case measure=>simp[RowKit.intOf];omega
  ·have:n=ks.length:=Oa
   subst this;go_wp2;go_ret;exact⟨⟨-1,rfl,Idx.no HN.out⟩,rfl⟩
theorem aCT(k cp:Nat)(ks:List Int)(v:Int)(w:World)(h:bCN w k ks)(hl:ks.length<=100):
 Calls Tryz.prog 183 #[.slice (some ⟨k,0,none⟩) ks.length cp,.int .i64 v] w fun e w'=>e= .returned (.bool (aQ ks v))/\w=w':=by
 go_enter Tryz.func183,Tryz.ntmps183
 go_wp2_with fail
 refine(aL3 k cp ks v w h hl).mono ?_;rintro e w' ⟨⟨n,rfl,hn⟩,rfl⟩;have HN:Hid (decide (0<=n)=aQ ks v):=hn;clear hn;go_wp2;go_ret;exact⟨bX HN.out,rfl⟩
def aN(T:List Tok)(r:Rd)(ks:List Int):Bool:=aQ ks (dD T r.next).kind
theorem gB(T:List Tok)(g cap b:Nat)(r:Rd)(k cp:Nat)(ks:List Int)(w:World)(h:RdW T g cap b r w)(hk:bCN w k ks)(hl:ks.length<=100):
 Calls Tryz.prog 123 #[.pointer (some ⟨b,0,none⟩),.slice (some ⟨k,0,none⟩) ks.length cp] w fun e w'=>e= .returned (.bool (aN T r ks))/\∃ n,w'=w.drewN n:=by
 have c0:=h.c0;have c1:=h.c1;have t0:=h.tok0;have hlt:(r.next:Int) < (T.length:Int):=by have:=h.lt;omega
 have hfew:(T.length:Int)<=5000:=by have:=h.few;omega
 have h0:∀ n,bCN (w.drewN n) k ks:=fun n i hi=>hk i hi;go_enter Tryz.func123,Tryz.ntmps123
 go_wp2;go_quiet ((go_at_call 183;exact Calls.quiet_of_same ((aCT k cp ks _ _ (h0 _) hl).mono fun _ _ hq=>⟨hq.1,hq.2.symm⟩)))
 go_wp2;go_ret;exact⟨rfl,_,rfl⟩
def Rd.fail(n:Nat)(r:Rd)(c p:Int):Rd:=if r.code=0 then⟨n - 1,r.nest,c,p⟩else⟨n - 1,r.nest,r.code,r.pos⟩
def Rd.step(r:Rd):Rd:=⟨r.next+1,r.nest,r.code,r.pos⟩
def Rd.take(T:List Tok)(r:Rd)(ks:List Int):Rd:=if aN T r ks then r.step else r.fail T.length 2 (dD T r.next).pos
def cN(T:List Tok)(r:Rd)(ks:List Int):Tok:=if aN T r ks then dD T r.next else aD6
def Rd.skips(T:List Tok)(r:Rd)(ks:List Int):Rd:=if aN T r ks then r.step else r
def Rd.deeper(n:Nat)(r:Rd)(p:Int):Rd:=if 10 < r.nest+1 then Rd.fail n ⟨r.next,r.nest+1,r.code,r.pos⟩ 6 p else⟨r.next,r.nest+1,r.code,r.pos⟩
theorem RdW.stepped(h:RdW T g cap b r w){ks:List Int}(hs:aN T r ks=true)(h0:aQ ks 0=false):r.next+1 < T.length:=by
 have h1:=h.lt;rcases Qk (r.next+1) T.length with h2|h2
 ·exact h2
 ·exfalso;have e:r.next=T.length - 1:=Oa
  unfold aN dD at hs;rw[e,h.last,h0]at hs;cases hs
theorem aB4(T:List Tok)(g cap b:Nat)(r:Rd)(c p:Int)(w:World)(h:RdW T g cap b r w):
 Calls Tryz.prog 184 #[.pointer (some ⟨b,0,none⟩),.int .i64 c,.int .i64 p] w fun e w'=>e= .returned (.tuple #[])/\RdW T g cap b (r.fail T.length c p) w'/\Ex b w w':=by
 have c0:=h.c0;have c1:=h.c1;have c3:=h.c3;have c4:=h.c4;have f1:=h.froz 1;have f3:=h.froz 3;have f4:=h.froz 4;have hlt:(r.next:Int) < (T.length:Int):=by have:=h.lt;omega
 have hfew:(T.length:Int)<=5000:=by have:=h.few;omega
 have h0:((T.length - 1:Nat):Int)=(T.length:Int) - 1:=by have:=h.lt;omega
 have HC:Hid (((T.length - 1:Nat):Int)=(T.length:Int) - 1):=h0;clear h0
 by_cases hc:r.code=0
 ·have hr:=((h.setCode c).setPos p).setNext (T.length - 1) (Oi h.lt);rw[HC.out]at hr;rw[hc]at c3;have hf:r.fail T.length c p=⟨T.length - 1,r.nest,c,p⟩:=if_pos hc;rw[hf];clear hf hc;go_enter Tryz.func184,Tryz.ntmps184
  go_wp2;go_end0
  exact⟨rfl,hr,(((Ex.refl b w).set 3 _).set 4 _).set 1 _⟩
 ·have hr:=h.setNext (T.length - 1) (Oi h.lt);rw[HC.out]at hr;have hf:r.fail T.length c p=⟨T.length - 1,r.nest,r.code,r.pos⟩:=if_neg hc;rw[hf];have hn:(r.code==0)=false:=by simpa using hc
  clear hf hc;go_enter Tryz.func184,Tryz.ntmps184
  go_wp2;go_end0
  exact⟨rfl,hr,(Ex.refl b w).set 1 _⟩
theorem lL(T:List Tok)(g cap b:Nat)(r:Rd)(k cp:Nat)(ks:List Int)(w:World)(h:RdW T g cap b r w)(hk:bCN w k ks)(hl:ks.length<=100)(h0:aQ ks 0=false):
 Calls Tryz.prog 189 #[.pointer (some ⟨b,0,none⟩),.slice (some ⟨k,0,none⟩) ks.length cp] w fun e w'=>e= .returned (.bool (aN T r ks))/\RdW T g cap b (r.skips T ks) w'/\Ex b w w':=by
 have hfew:(T.length:Int)<=5000:=by have:=h.few;omega
 have hlt:(r.next:Int) < (T.length:Int):=by have:=h.lt;omega
 go_enter Tryz.func189,Tryz.ntmps189
 go_wp2_with fail
 refine(gB T g cap b r k cp ks w h hk hl).mono ?_;rintro e w' ⟨rfl,n,rfl⟩;have h':=h.drewN n;have e':=(Ex.refl b w).drewN n;generalize w.drewN n=W at*;have c1:=h'.c1;have f1:=h'.froz 1;cases hs:aN T r ks
 ·have hf:Hid (r.skips T ks=r):=by unfold Hid Rd.skips;rw[hs];rfl
  go_wp2;go_ret;exact⟨bX hs.symm,by rw[hf.out];exact h',e'⟩
 ·have hf:Hid (r.skips T ks=r.step):=by unfold Hid Rd.skips;rw[hs];rfl
  have hn:=h'.setNext (r.next+1) (h.stepped hs h0);rw[Int.natCast_succ]at hn;go_wp2;go_ret;exact⟨bX hs.symm,by rw[hf.out];exact hn,e'.set 1 _⟩
theorem Tok.val_eq(t:Tok):t.val= .agg #[.int .i64 t.kind,.int .i64 t.pos,.string t.text,.int .i64 t.value]:=rfl
theorem bCN.alloc{k:Nat}{ks:List Int}(h:bCN w k ks)(o:Obj):bCN (w.alloc o) k ks:=fun i hi=>by
 have h1:=h i hi;rw[World.cell?_alloc_past _ _ _ (Qg w _ h1)];exact h1
theorem bCN.ex{k:Nat}{ks:List Int}(h:bCN w k ks)(he:Ex b w w')(hb:k≠b):bCN w' k ks:=fun i hi=>by
 have h1:=h i hi;exact(Qf (he.block k (Qg w _ h1) hb)).trans h1
def aTM(a p v:Int)(x:ByteArray):Array Value:=#[.int .i64 a,.int .i64 p,.string x,.int .i64 v]
theorem dG{k:Nat}{a p v:Int}{x:ByteArray}{t:TypeId}(h:w.heap[k]?=some (.cells (aTM a p v x) t (0,0))):
 w.cell? ⟨k,0,none⟩=some (.int .i64 a)/\w.cell? ⟨k,1,none⟩=some (.int .i64 p)/\w.cell? ⟨k,2,none⟩=some (.string x)/\w.cell? ⟨k,3,none⟩=some (.int .i64 v)/\(∀ o,w.frozen? ⟨k,o,none⟩=false):=
 ⟨cell_of_row _ _ _ _ _ _ h,cell_of_row _ _ _ _ _ _ h,cell_of_row _ _ _ _ _ _ h,cell_of_row _ _ _ _ _ _ h,fun o=>by simp[World.frozen?,h]⟩
theorem aEJ{k:Nat}{v0 v1 v2 v3 u0 u1 u2 u3:Value}(h0:w.cell? ⟨k,0,none⟩=some v0)(h1:w.cell? ⟨k,1,none⟩=some v1)(h2:w.cell? ⟨k,2,none⟩=some v2)(h3:w.cell? ⟨k,3,none⟩=some v3):
 let W:=(((w.setCell ⟨k,0,none⟩ u0).setCell ⟨k,1,none⟩ u1).setCell ⟨k,2,none⟩ u2).setCell ⟨k,3,none⟩ u3
 W.cell? ⟨k,0,none⟩=some u0/\W.cell? ⟨k,1,none⟩=some u1/\W.cell? ⟨k,2,none⟩=some u2/\W.cell? ⟨k,3,none⟩=some u3:=by
 have e1:(w.setCell ⟨k,0,none⟩ u0).cell? ⟨k,1,none⟩=some v1:=by rw[eP h0];exact h1
 have e2:((w.setCell ⟨k,0,none⟩ u0).setCell ⟨k,1,none⟩ u1).cell? ⟨k,2,none⟩=some v2:=by rw[eP e1,Oh,eP h0];exact h2
 have e3:(((w.setCell ⟨k,0,none⟩ u0).setCell ⟨k,1,none⟩ u1).setCell ⟨k,2,none⟩ u2).cell? ⟨k,3,none⟩=some v3:=by rw[eP e2,Oh,eP e1,Oh,eP h0];exact h3
 refine⟨?_,?_,?_,?_⟩
 ·rw[eP e3,Oh,eP e2,Oh,eP e1,Oh,eP h0];rfl
 ·rw[eP e3,Oh,eP e2,Oh,eP e1];rfl
 ·rw[eP e3,Oh,eP e2];rfl
 ·rw[eP e3];rfl
theorem fG(T:List Tok)(g cap b:Nat)(r:Rd)(k cp:Nat)(ks:List Int)(w:World)(h:RdW T g cap b r w)(hk:bCN w k ks)(hl:ks.length<=100)(h0:aQ ks 0=false):
 Calls Tryz.prog 124 #[.pointer (some ⟨b,0,none⟩),.slice (some ⟨k,0,none⟩) ks.length cp] w fun e w'=>e= .returned (cN T r ks).val/\RdW T g cap b (r.take T ks) w'/\Ex b w w':=by
 have c0:=h.c0;have c1:=h.c1;have t0:=h.tok0;have t1:=h.tok1;have t2:=h.tok2;have t3:=h.tok3;have hgs:=h.gsize;have hbs:=h.size;have hfew:(T.length:Int)<=5000:=by have:=h.few;omega
 have hlt:(r.next:Int) < (T.length:Int):=by have:=h.lt;omega
 generalize ht:dD T r.next=t at*;have ht:Hid (dD T r.next=t):=ht;go_enter Tryz.func124,Tryz.ntmps124
 go_wp2;go_region
 go_wp2_with fail
 have h6:=((h.alloc (.cells #[.int .i64 0,.int .i64 0,.string (ByteArray.mk #[]),.int .i64 0] 143)).alloc (.cells #[.int .i64 t.kind,.int .i64 t.pos,.string t.text,.int .i64 t.value] 143)).drew;have h9:bCN _ k ks:=(hk.alloc (.cells #[.int .i64 0,.int .i64 0,.string (ByteArray.mk #[]),.int .i64 0] 143)).alloc (.cells #[.int .i64 t.kind,.int .i64 t.pos,.string t.text,.int .i64 t.value] 143);have k6:=(((Ex.refl b w).alloc (.cells #[.int .i64 0,.int .i64 0,.string (ByteArray.mk #[]),.int .i64 0] 143)).alloc (.cells #[.int .i64 t.kind,.int .i64 t.pos,.string t.text,.int .i64 t.value] 143)).drew;refine(gB T g cap b r k cp ks _ h6 h9 hl).mono ?_;rintro e w' ⟨rfl,n,rfl⟩;have h4:=h6.drewN n;have k5:=k6.drewN n;have h5:(w.alloc (.cells #[.int .i64 0,.int .i64 0,.string (ByteArray.mk #[]),.int .i64 0] 143)).heap.size=w.heap.size+1:=Od
 have h3:(((w.alloc (.cells #[.int .i64 0,.int .i64 0,.string (ByteArray.mk #[]),.int .i64 0] 143)).alloc (.cells #[.int .i64 t.kind,.int .i64 t.pos,.string t.text,.int .i64 t.value] 143)).drew.drewN n).heap[w.heap.size]?=some (.cells #[.int .i64 0,.int .i64 0,.string (ByteArray.mk #[]),.int .i64 0] 143 (0,0)):=
  (On (by rw[h5];omega)).trans (Qb w _)
 have h7:(((w.alloc (.cells #[.int .i64 0,.int .i64 0,.string (ByteArray.mk #[]),.int .i64 0] 143)).alloc (.cells #[.int .i64 t.kind,.int .i64 t.pos,.string t.text,.int .i64 t.value] 143)).drew.drewN n).heap[w.heap.size+1]?=some (.cells #[.int .i64 t.kind,.int .i64 t.pos,.string t.text,.int .i64 t.value] 143 (0,0)):=by
  have:=Qb (w.alloc (.cells #[.int .i64 0,.int .i64 0,.string (ByteArray.mk #[]),.int .i64 0] 143)) (.cells #[.int .i64 t.kind,.int .i64 t.pos,.string t.text,.int .i64 t.value] 143);rw[h5]at this;exact this
 clear h6 h9 k6 h5 c0 c1 t0 t1 t2 t3;generalize (((w.alloc (.cells #[.int .i64 0,.int .i64 0,.string (ByteArray.mk #[]),.int .i64 0] 143)).alloc (.cells #[.int .i64 t.kind,.int .i64 t.pos,.string t.text,.int .i64 t.value] 143)).drew.drewN n)=W at*;have c1:=h4.c1;have f1:=h4.froz 1;obtain⟨z0,z1,z2,z3,zf⟩:=dG h3;obtain⟨l0,l1,l2,l3,lf⟩:=dG h7;have h1:w.heap.size≠b:=Oa
 have h2:w.heap.size≠g:=Oa
 cases hs:aN T r ks
 ·have hf:Hid (r.take T ks=r.fail T.length 2 t.pos):=by unfold Hid Rd.take;rw[hs,ht.out];rfl
  have h8:Hid (cN T r ks=aD6):=by unfold Hid cN;rw[hs];rfl
  go_wp2_with fail
  refine(aB4 T g cap b r _ _ W h4).mono ?_;rintro e w2 ⟨rfl,k8,k4⟩;have k7:=(k4.block w.heap.size (Oo h3) h1).trans h3;obtain⟨y0,y1,y2,y3,yf⟩:=dG k7;clear z0 z1 z2 z3 zf l0 l1 l2 l3 lf;have yf0:=yf 0;have yf1:=yf 1;have yf2:=yf 2;have yf3:=yf 3;obtain⟨x0,x1,x2,x3⟩:=aEJ (u0:= .int .i64 0) (u1:= .int .i64 0) (u2:= .string (ByteArray.mk #[])) (u3:= .int .i64 0) y0 y1 y2 y3;go_wp2;refine bodyPost_ret (v:=aD6.val) (by simp[results,Tryz.results124,go_sem,x0,x1,x2,x3,aD6,Tok.val]) rfl ⟨by rw[h8.out],?_,?_⟩
  ·rw[hf.out];exact(((k8.setOther h1 h2 0 _).setOther h1 h2 1 _).setOther h1 h2 2 _).setOther h1 h2 3 _
  ·exact(((((k5.trans k4).setNew Ol 0 _).setNew Ol 1 _).setNew Ol 2 _).setNew Ol 3 _)
 ·have hf:Hid (r.take T ks=r.step):=by unfold Hid Rd.take;rw[hs];rfl
  have h8:Hid (cN T r ks=t):=by unfold Hid cN;rw[hs,ht.out];rfl
  have hn:=h4.setNext (r.next+1) (h.stepped hs h0);rw[Int.natCast_succ]at hn;have g0:(W.setCell ⟨b,1,none⟩ (.int .i64 (↑r.next+1))).heap[w.heap.size]?=_:=(Om h1).trans h3;obtain⟨y0,y1,y2,y3,yf⟩:=dG g0;have yf0:=yf 0;have yf1:=yf 1;have yf2:=yf 2;have yf3:=yf 3;have k9:w.heap.size+1≠b:=Oa
  have g1:(W.setCell ⟨b,1,none⟩ (.int .i64 (↑r.next+1))).heap[w.heap.size+1]?=_:=(Om k9).trans h7;obtain⟨k0,k1,k2,k3,kf⟩:=dG g1;obtain⟨x0,x1,x2,x3⟩:=aEJ (u0:= .int .i64 t.kind) (u1:= .int .i64 t.pos) (u2:= .string t.text) (u3:= .int .i64 t.value) y0 y1 y2 y3;clear g0 g1 z0 z1 z2 z3 zf l0 l1 l2 l3 lf yf kf h3 h7;go_wp2;refine bodyPost_ret (v:=t.val) (by simp[results,Tryz.results124,go_sem,x0,x1,x2,x3,Tok.val]) rfl ⟨by rw[h8.out],?_,?_⟩
  ·rw[hf.out];exact(((hn.setOther h1 h2 0 _).setOther h1 h2 1 _).setOther h1 h2 2 _).setOther h1 h2 3 _
  ·exact(((((k5.set 1 _).setNew Ol 0 _).setNew Ol 1 _).setNew Ol 2 _).setNew Ol 3 _)
end
section
open Go.RowKit Go.Lib
variable {T:List Tok} {g cap b:Nat} {r:Rd} {w w':World}
theorem bM(w:World)(ks:List Int)(cs:Array Value)(h:cs.toList=ks.map (Value.int .i64)):bCN (w.alloc (.cells cs 141)) w.heap.size ks:=fun i hi=>by
 rw[World.cell?_alloc_new];have h1:cs[i]?=cs.toList[i]?:=Od
 rw[h1,h];simp[List.getD,hi]
theorem bCM{k:Nat}{a p x:Value}{t:TypeId}(h:w.heap[k]?=some (.cells #[a,p,x] t (0,0))):
 w.cell? ⟨k,0,none⟩=some a/\w.cell? ⟨k,1,none⟩=some p/\w.cell? ⟨k,2,none⟩=some x/\(∀ o,w.frozen? ⟨k,o,none⟩=false):=
 ⟨cell_of_row _ _ _ _ _ _ h,cell_of_row _ _ _ _ _ _ h,cell_of_row _ _ _ _ _ _ h,fun o=>by simp[World.frozen?,h]⟩
theorem aIO{k:Nat}{v0 v1 v2 u0 u1 u2:Value}(h0:w.cell? ⟨k,0,none⟩=some v0)(h1:w.cell? ⟨k,1,none⟩=some v1)(h2:w.cell? ⟨k,2,none⟩=some v2):
 let W:=((w.setCell ⟨k,0,none⟩ u0).setCell ⟨k,1,none⟩ u1).setCell ⟨k,2,none⟩ u2
 W.cell? ⟨k,0,none⟩=some u0/\W.cell? ⟨k,1,none⟩=some u1/\W.cell? ⟨k,2,none⟩=some u2:=by
 have e1:(w.setCell ⟨k,0,none⟩ u0).cell? ⟨k,1,none⟩=some v1:=by rw[eP h0];exact h1
 have e2:((w.setCell ⟨k,0,none⟩ u0).setCell ⟨k,1,none⟩ u1).cell? ⟨k,2,none⟩=some v2:=by rw[eP e1,Oh,eP h0];exact h2
 refine⟨?_,?_,?_⟩
 ·rw[eP e2,Oh,eP e1,Oh,eP h0];rfl
 ·rw[eP e2,Oh,eP e1];rfl
 ·rw[eP e2];rfl
def fV(x:ByteArray)(p:Int):Value:= .agg #[.string x,.int .i64 p,.int .i64 0]
theorem tU(T:List Tok)(g cap b:Nat)(r:Rd)(t:Tok)(w:World)(h:RdW T g cap b r w)(hn:0<=r.nest/\r.nest<=1000000):
 Calls Tryz.prog 243 #[.pointer (some ⟨b,0,none⟩),t.val] w fun e w'=>e= .returned (.tuple #[])/\RdW T g cap b (r.deeper T.length t.pos) w'/\Ex b w w':=by
 rw[Tok.val_eq];obtain⟨n0,n1⟩:=hn;have c2:=h.c2;have f2:=h.froz 2;have hb:=h.size;have h2:=(h.setNest (r.nest+1)).alloc (.cells #[.int .i64 t.kind,.int .i64 t.pos,.string t.text,.int .i64 t.value] 143);have e2:=((Ex.refl b w).set 2 (.int .i64 (r.nest+1))).alloc (.cells #[.int .i64 t.kind,.int .i64 t.pos,.string t.text,.int .i64 t.value] 143);have c2':=h2.c2
 by_cases hd:10 < r.nest+1
 ·have hf:Hid (r.deeper T.length t.pos=Rd.fail T.length ⟨r.next,r.nest+1,r.code,r.pos⟩ 6 t.pos):=if_pos hd;go_enter Tryz.func243,Tryz.ntmps243
  go_wp2_with fail
  refine(aB4 T g cap b _ _ _ _ h2).mono ?_;rintro e w2 ⟨rfl,h3,e3⟩;go_wp2;go_end0
  exact⟨rfl,by rw[hf.out];exact h3,e2.trans e3⟩
 ·have hf:Hid (r.deeper T.length t.pos=⟨r.next,r.nest+1,r.code,r.pos⟩):=if_neg hd;go_enter Tryz.func243,Tryz.ntmps243
  go_wp2_with fail
  go_end0
  exact⟨rfl,by rw[hf.out];exact h2,e2⟩
theorem Rd.take_nest(T:List Tok)(r:Rd)(ks:List Int):(r.take T ks).nest=r.nest:=by
 unfold Rd.take;split
 ·rfl
 ·unfold Rd.fail;split<;>rfl
def Rd.opened(T:List Tok)(r:Rd)(ks:List Int):Rd:=(r.take T ks).deeper T.length (cN T r ks).pos
def Rd.shut(T:List Tok)(r:Rd)(k:Int):Rd:=⟨(r.take T [k]).next,(r.take T [k]).nest - 1,(r.take T [k]).code,(r.take T [k]).pos⟩
theorem uL(T:List Tok)(g cap b:Nat)(r:Rd)(k cp:Nat)(ks:List Int)(w:World)(h:RdW T g cap b r w)(hk:bCN w k ks)(hl:ks.length<=100)(h0:aQ ks 0=false)(hn:0<=r.nest/\r.nest<=1000000):
 Calls Tryz.prog 186 #[.pointer (some ⟨b,0,none⟩),.slice (some ⟨k,0,none⟩) ks.length cp] w fun e w'=>e= .returned (.tuple #[])/\RdW T g cap b (r.opened T ks) w'/\Ex b w w':=by
 go_enter Tryz.func186,Tryz.ntmps186
 go_wp2_with fail
 refine(fG T g cap b r k cp ks w h hk hl h0).mono ?_;rintro e w2 ⟨rfl,h2,e2⟩;generalize hq:cN T r ks=q;rw[Tok.val_eq];go_wp2_with fail
 refine(tU T g cap b (r.take T ks) q w2 h2 (by rw[Rd.take_nest];exact hn)).mono ?_;rintro e w3 ⟨rfl,h3,e3⟩;go_wp2;go_end0
 exact⟨rfl,by unfold Rd.opened;rw[hq];exact h3,e2.trans e3⟩
theorem nC(T:List Tok)(g cap b:Nat)(r:Rd)(k:Int)(w:World)(h:RdW T g cap b r w)(h0:aQ [k] 0=false)(hn:0<=r.nest/\r.nest<=1000000):
 Calls Tryz.prog 188 #[.pointer (some ⟨b,0,none⟩),.int .i64 k] w fun e w'=>e= .returned (.tuple #[])/\RdW T g cap b (r.shut T k) w'/\Ex b w w':=by
 have hk:=bM w [k] #[.int .i64 k] rfl;have h1:=h.alloc (.cells #[.int .i64 k] 141);have e1:=(Ex.refl b w).alloc (.cells #[.int .i64 k] 141);go_enter Tryz.func188,Tryz.ntmps188
 go_wp2_with fail
 refine(fG T g cap b r w.heap.size 1 [k] _ h1 hk Od h0).mono ?_;rintro e w2 ⟨rfl,h2,e2⟩;have h4:0<=(r.take T [k]).nest/\(r.take T [k]).nest<=1000000:=by rw[Rd.take_nest];exact hn
 obtain⟨n0,n1⟩:=h4;have c2:=h2.c2;have f2:=h2.froz 2;have h3:=h2.setNest ((r.take T [k]).nest - 1);have e3:=(e1.trans e2).set 2 (.int .i64 ((r.take T [k]).nest - 1));go_wp2;go_end0
 exact⟨rfl,h3,e3⟩
theorem bCR(t:Tok)(w:World):
 Calls Tryz.prog 242 #[t.val] w fun e w'=>e= .returned (fV t.text t.pos)/\Below w.heap.size w w':=by
 rw[Tok.val_eq];go_enter Tryz.func242,Tryz.ntmps242
 go_wp2;refine bodyPost_ret (v:=fV t.text t.pos) (by simp[results,Tryz.results242,go_sem,fV]) rfl ⟨rfl,?_⟩;exact((Below.refl _ _).alloc Ol _).alloc Od _
theorem uM(T:List Tok)(g cap b:Nat)(r:Rd)(w:World)(h:RdW T g cap b r w):
 Calls Tryz.prog 185 #[.pointer (some ⟨b,0,none⟩)] w fun e w'=>e= .returned (fV (cN T r [1]).text (cN T r [1]).pos)/\RdW T g cap b (r.take T [1]) w'/\Ex b w w':=by
 have h1:=(h.alloc (.cells #[.string (ByteArray.mk #[]),.int .i64 0,.int .i64 0] 100));have e1:=((Ex.refl b w).alloc (.cells #[.string (ByteArray.mk #[]),.int .i64 0,.int .i64 0] 100));have hbs:=h.size;have hgs:=h.gsize;go_enter Tryz.func185,Tryz.ntmps185
 go_wp2_with fail
 have h2:=h1.alloc (.cells #[.int .i64 1] 141);have e2:=e1.alloc (.cells #[.int .i64 1] 141);have h6:(w.alloc (.cells #[.string (ByteArray.mk #[]),.int .i64 0,.int .i64 0] 100)).heap.size=w.heap.size+1:=Od
 have h7:=bM (w.alloc (.cells #[.string (ByteArray.mk #[]),.int .i64 0,.int .i64 0] 100)) [1] #[.int .i64 1] rfl;rw[h6]at h7
 have z2:((w.alloc (.cells #[.string (ByteArray.mk #[]),.int .i64 0,.int .i64 0] 100)).alloc (.cells #[.int .i64 1] 141)).heap[w.heap.size]?=some (.cells #[.string (ByteArray.mk #[]),.int .i64 0,.int .i64 0] 100 (0,0)):=
  (On (by rw[h6];omega)).trans (Qb w _)
 generalize ((w.alloc (.cells #[.string (ByteArray.mk #[]),.int .i64 0,.int .i64 0] 100)).alloc (.cells #[.int .i64 1] 141))=W2 at*;refine(fG T g cap b r (w.heap.size+1) 1 [1] W2 h2 h7 Od Ob).mono ?_;rintro e W3 ⟨rfl,h3,e3⟩;have h0:w.heap.size≠b:=Oa
 have h5:w.heap.size≠g:=Oa
 have z3:=(e3.block w.heap.size (Oo z2) h0).trans z2;generalize hq:cN T r [1]=q;rw[Tok.val_eq];go_wp2_with fail
 refine(bCR q W3).mono ?_;rintro e W4 ⟨rfl,b4⟩;have h4:=h3.below b4;have e4:=(e2.trans e3).trans (Ex.of_below (b:=b) b4);have z4:=(b4.block w.heap.size (Oo z3)).trans z3;obtain⟨y0,y1,y2,yf⟩:=bCM z4;have yf0:=yf 0;have yf1:=yf 1;have yf2:=yf 2;obtain⟨x0,x1,x2⟩:=aIO (u0:= .string q.text) (u1:= .int .i64 q.pos) (u2:= .int .i64 0) y0 y1 y2;unfold fV;go_wp2;refine bodyPost_ret (v:=fV q.text q.pos) (by simp[results,Tryz.results185,go_sem,fV,x0,x1,x2]) rfl ⟨by rw[hq],?_,?_⟩
 ·exact((h4.setOther h0 h5 0 _).setOther h0 h5 1 _).setOther h0 h5 2 _
 ·exact((e4.setNew Ol 0 _).setNew Ol 1 _).setNew Ol 2 _
end
end Go.Proofs.YtikffmloeifkpaaGreatDoor
