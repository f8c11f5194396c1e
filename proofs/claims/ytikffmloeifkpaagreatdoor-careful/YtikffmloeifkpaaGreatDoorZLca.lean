/- Contracts. -/
import Derived.Test.YtikffmloeifkpaaGreatDoorM38
import Derived.Test.YtikffmloeifkpaaGreatDoorM39
namespace Go.Proofs.YtikffmloeifkpaaGreatDoor
open Go.RowKit Go.Lib Go.Deep Go.Maps Go.ChangeMaps Go.MapKept
set_option maxRecDepth 100000 in
set_option maxHeartbeats 16000000 in
theorem aFD(s:ByteArray)(va:Value)(args:List Int)(fuel:Int)(w:World)(ht:Tab w)(hm:s.size<=maxLen)(ha:xK w va args)(m3:I6 args)(hf:-9223372036854775808<=fuel/\fuel<=9223372036854775807):
 Calls Tryz.prog 8 #[.string s,va,.int .i64 fuel] w fun e w'=>e= .returned (.bool true)/\Below w.heap.size w w':=by
 have h0:=aBP ht;have hs:=aLH w ht;have HA:Hid (xK w va args):=ha;obtain⟨sp,cp,e0,_⟩:=ha;have HT:Hid (Tab w):=ht;have m8:Hid _:=fun w=>aMU fuel 20001 w hf (by decide);clear ht;subst e0;go_enter Tryz.func8,Tryz.ntmps8
 go_wp2_with fail
 refine hs.mono ?_;rintro e W1 ⟨rfl,b1⟩;have hr:=aA6 knT W1 (HT.out.below b1 h0) (by unfold maxLen;decide);unfold knT at hr;have hl1:=b1.size;clear hs;go_wp2_with fail
 refine hr.mono ?_;rintro e W2 ⟨b2,h1⟩;have hl2:=b2.size;have B2:Below w.heap.size w W2:=b1.trans (b2.mono (by omega));clear hr;replace h1:=h1.resolve_left (fun h=>h.1 (by have:=aI0;unfold knT at this;rw[this]));obtain⟨_,ab,rfl,hp⟩:=h1;obtain⟨oF,k5⟩:∃ o:Obj,o= .cells #[.int .i64 0,.int .i64 0] 37:=⟨_,rfl⟩;have B3:Below w.heap.size w (W2.alloc oF):=B2.alloc B2.size _;have z9:=hp.next (w':=W2.alloc oF) (fun i hi=>Below.heap_alloc _ _ _ hi);have hS:=tY z9 (by have:=aI0;unfold knT at this;rw[this]);have g3:Hid _:=B3;have z1:=aSO;have z2:=aUD;have h8:=aUC;unfold knT at z1 z2 h8;have y4:Hid _:=z1;have HK0:Hid _:=z2;have m9:Hid _:=h8;clear hp B2 b1 b2 B3 z9 z1 z2 h8;go_upto_region 3 with fail
 rw[<-k5];clear k5;generalize W2.alloc oF=W3 at*;go_wp2_with fail
 refine hS.mono ?_;rintro e W4 ⟨v4,rfl,j1,b4⟩;have y6:=j1.row (by rw[y4.out];decide);obtain⟨g4,c4,rfl,hg4,hg4l,z4⟩:=y6;obtain⟨x00,x01,x02⟩:=z4 0 (by rw[y4.out];decide);obtain⟨x10,x11,x12⟩:=z4 1 (by rw[y4.out];decide);rw[y4.out];have x02':W4.cell? ⟨g4,2,none⟩=some (.bool true):=by rw[<-HK0.out];exact x02
 have x12':W4.cell? ⟨g4,5,none⟩=some (.bool false):=by rw[<-m9.out];exact x12
 have g8:=g3.out.size;have hl4:=b4.size;have B4:Below w.heap.size w W4:=g3.out.trans (b4.mono g8);have HB4:Hid _:=B4;have z7:=aA6 s W4 (HT.out.below B4 h0) hm;clear z4 x00 x01 x02 x10 x11 x12 j1 b4 B4 hS;go_wp2_with fail
 refine z7.mono ?_;rintro e W5 ⟨b5,h1⟩;have hl5:=b5.size;have B5:Below w.heap.size w W5:=HB4.out.trans (b5.mono (by omega));clear z7 x02' x12';rcases h1 with⟨hc,rfl⟩|⟨hc,ab2,rfl,hp⟩
 ·have HB:Hid (Below w.heap.size w (W5.alloc (.cells #[.int .i64 (eZ s).1,.int .i64 (eZ s).2] 37))):=B5.alloc B5.size _;clear B5 b5;go_wp2;go_ret;exact⟨rfl,HB.out⟩
 ·obtain⟨oF,k5⟩:∃ o:Obj,o= .cells #[.int .i64 0,.int .i64 0] 37:=⟨_,rfl⟩;have B6:Below w.heap.size w (W5.alloc oF):=B5.alloc B5.size _;have y7:=hp.next (w':=W5.alloc oF) (fun i hi=>Below.heap_alloc _ _ _ hi);have j4:=tY y7 hc;have HC:Hid ((eZ s).1=0):=hc;have m7:Hid (PgW ab2 s (W5.alloc oF)):=y7;have g2:Hid (Below w.heap.size w (W5.alloc oF)):=B6;clear hp B5 b5 B6 y7 hc;go_upto_region 9 with fail
  rw[<-k5];clear k5;generalize W5.alloc oF=W6 at*;go_wp2_with fail
  refine j4.mono ?_;rintro e W7 ⟨vl,rfl,h3,b7⟩;obtain⟨al,cl,rfl⟩:=h3.slice;have hl6:=g2.out.size;have hl7:=b7.size;have B7:Hid (Below w.heap.size w W7):=g2.out.trans (b7.mono (by omega));have z8:=m7.out.next (fun i hi=>b7.block i hi);have y3:Hid (PgW ab2 s W7):=z8;have y1:Hid (FlW W6.heap.size (.slice al (fS s).length cl) (fS s) (fN (rdT s)) W7):=h3;clear j4 h3 b7 z8;go_wp2_with fail
  refine(m8.out W7).mono ?_;rintro e W8 ⟨⟨n,rfl,n0,n1,_⟩,rfl⟩;have z5:=aA5 y3.out HC.out (HA.out.next (fun i hi=>B7.out.block i hi)) n
  obtain⟨t,ht,_⟩:∃ t:Tr,er t=rdT s/\True:=by
   obtain⟨H,g,cap,pb,t,vA,vF,vS,m5,hp⟩:=y3.out.ex;exact⟨t,hp.er,trivial⟩
  have y5:=aPG ht HC.out m3 n;obtain⟨es1,es2⟩:=yH ht;rw[es1,es2]at y5;have k8:Hid _:=y5;clear y5 es1 es2;have k9:Hid _:=aME ht HC.out
  have h7:Hid ((fS s).length<=1000000):=by
   obtain⟨H,g,cap,pb,t,vA,vF,vS,m5,hp⟩:=y3.out.ex;have:=aAS hp HC.out (good hp.er HC.out);rw[(yH hp.er).1]at this;exact this
  go_wp2_with fail
  refine z5.mono ?_;rintro e W9 hpost;obtain⟨vb,rfl,hx,b9⟩:=hpost.rs;generalize kM s args n=x at*;obtain⟨vO,rfl,k3⟩:=hx;obtain⟨xo,xp,rfl,_⟩:=k3;obtain⟨oA,y8⟩:∃ o:Obj,o= .cells #[.int .i64 x.fin,.int .i64 x.value,.int .i64 x.site,.slice xo x.outs.length xp] 42:=⟨_,rfl⟩
  have kA:(W9.alloc oA).heap[W9.heap.size]?=some (.cells #[.int .i64 x.fin,.int .i64 x.value,.int .i64 x.site,.slice xo x.outs.length xp] 42 (0,0)):=by
   rw[y8];exact heap_alloc_new W9 _
  have n9:∀ i,i < W7.heap.size->(W9.alloc oA).heap[i]?=W7.heap[i]?:=fun i hi=>(Below.heap_alloc _ _ _ (by have:=b9.size;omega)).trans (b9.block i hi);have hl9:=b9.size;have hl8:=B7.out.size;have BA:Hid (Below w.heap.size w (W9.alloc oA)):=(B7.out.trans (b9.mono (by omega))).alloc (by omega) _;have j3:=tY (y3.out.next n9) HC.out;have y0:Hid (FlW W6.heap.size (.slice al (fS s).length cl) (fS s) (fN (rdT s)) (W9.alloc oA)):=y1.out.next n9;have j7:Hid _:=kA;have g7:W9.heap.size < (W9.alloc oA).heap.size:=by simp
  clear hpost kA n9 z5 b9 y1;go_upto_region 13 with fail
  rw[<-y8];clear y8;generalize W9.alloc oA=WA at*;go_wp2_with fail
  refine j3.mono ?_;rintro e WB ⟨vm,rfl,h4,bB⟩;obtain⟨am,cm,rfl⟩:=h4.slice;have hlB:=bB.size;have kB:WB.heap[W9.heap.size]?=some (.cells #[.int .i64 x.fin,.int .i64 x.value,.int .i64 x.site,.slice xo x.outs.length xp] 42 (0,0)):=(bB.block _ g7).trans j7.out;have j9:Hid (FlW W6.heap.size (.slice al (fS s).length cl) (fS s) (fN (rdT s)) WB):=y0.out.next (fun i hi=>bB.block i hi);have j8:Hid (FlW WA.heap.size (.slice am (fS s).length cm) (fS s) (fN (rdT s)) WB):=h4;have g1:Hid (Below w.heap.size w WB):=BA.out.trans (bB.mono (by have:=BA.out.size;omega));obtain⟨r0,r1,r2,r3,_⟩:=dP kB;have j6:Hid _:=kB;clear j3 h4 bB kB j7 y0;generalize m6:fS s=SS at*;clear m6;have L0:FlW W6.heap.size (.slice al SS.length cl) SS (fN (rdT s)) WB/\FlW WA.heap.size (.slice am SS.length cm) SS (fN (rdT s)) WB/\Below w.heap.size w WB/\WB.heap[W9.heap.size]?=some (.cells #[.int .i64 x.fin,.int .i64 x.value,.int .i64 x.site,.slice xo x.outs.length xp] 42 (0,0)):=⟨j9.out,j8.out,g1.out,j6.out⟩;generalize fN (rdT s)=FF at*;clear j9 j8 g1 j6 r0 r1 r2 r3;go_wp2_with fail
  go_loopg [16] SS.length (fun m v wr=>∃ i:Nat,v= .int .i64 i/\i<=SS.length/\SS.length<=i+m/\FlW W6.heap.size (.slice al SS.length cl) SS FF wr/\FlW WA.heap.size (.slice am SS.length cm) SS FF wr/\Below w.heap.size w wr/\wr.heap[W9.heap.size]?=some (.cells #[.int .i64 x.fin,.int .i64 x.value,.int .i64 x.site,.slice xo x.outs.length xp] 42 (0,0)))
  case atStart=>exact⟨0,rfl,Nat.zero_le _,by omega,L0⟩
  case round=>
   clear L0;obtain⟨i,rfl,hle,hmm,h3,h4,h5,k6⟩:=hrel
   by_cases z0:i < SS.length
   ·have y9:(i:Int) < (SS.length:Int):=by omega
    have z3:SS.length<=1000000:=h7.out;obtain⟨gl,c1,e1,m4,_,h9⟩:=h3.row (by omega);obtain⟨gm,c2,e2,hgm,_,j2⟩:=h4.row (by omega);simp only[Value.slice.injEq]at e1 e2;obtain⟨rfl,_,rfl⟩:=e1;obtain⟨rfl,_,rfl⟩:=e2;obtain⟨l0,l1,l2⟩:=h9 i z0;obtain⟨m0,m1,m2⟩:=j2 i z0;obtain⟨⟨k1,k4⟩,p0,p1⟩:=k9.out.1 _ (List.getElem_mem z0)
    have HW:Hid (∀ n,FlW W6.heap.size (.slice (some ⟨gl,0,none⟩) SS.length cl) SS FF (wr.drewN n)/\FlW WA.heap.size (.slice (some ⟨gm,0,none⟩) SS.length cm) SS FF (wr.drewN n)/\Below w.heap.size w (wr.drewN n)/\(wr.drewN n).heap[W9.heap.size]?=some (.cells #[.int .i64 x.fin,.int .i64 x.value,.int .i64 x.site,.slice xo x.outs.length xp] 42 (0,0))):=
     fun n=>⟨h3.same fun _ _ _=>rfl,h4.same fun _ _ _=>rfl,⟨h5.os,h5.tape,h5.output,h5.size,h5.block⟩,k6⟩
    obtain⟨kk,rfl⟩:∃ m,gk=m+1:=⟨gk - 1,by omega⟩;have g6:=aND (SS[i]).1 (SS[i]).2 (FF (i:Int));have d1:decide ((SS[i]).1 < 1)=false:=decide_eq_false (by omega);have d2:decide ((SS[i]).1 > 4)=false:=decide_eq_false (by omega);have d3:decide ((SS[i]).2 < 0)=false:=decide_eq_false (by omega);have d4:decide ((SS[i]).2≥(s.size:Int))=false:=decide_eq_false (by omega)
    have y2:Hid (i=0\/∃ (j:Nat) (p:Int),i=j+1/\wr.cell? ⟨gl,j*3+1,none⟩=some (.int .i64 p)/\p < (SS[i]).2/\j < SS.length):=by
     rw[Hid];rcases Nat.eq_zero_or_pos i with j5|j5
     ·exact .inl j5
     ·obtain⟨j,rfl⟩:∃ j,i=j+1:=⟨i - 1,by omega⟩;have z6:=List.pairwise_iff_getElem.1 k9.out.2 j (j+1) (by rw[List.length_map];omega) (by rw[List.length_map];omega) (by omega);rw[List.getElem_map,List.getElem_map]at z6;exact .inr ⟨j,_,rfl,(h9 j (by omega)).2.1,z6,by omega⟩
    generalize (SS[i]).1=k0 at*;generalize (SS[i]).2=pp at*;generalize FF (i:Int)=f0 at*
    have k7:∀ n,∃ i':Nat,Value.int .i64 ((i:Int)+1)= .int .i64 i'/\i'<=SS.length/\SS.length<=i'+kk/\FlW W6.heap.size (.slice (some ⟨gl,0,none⟩) SS.length cl) SS FF (wr.drewN n)/\FlW WA.heap.size (.slice (some ⟨gm,0,none⟩) SS.length cm) SS FF (wr.drewN n)/\Below w.heap.size w (wr.drewN n)/\(wr.drewN n).heap[W9.heap.size]?=some (.cells #[.int .i64 x.fin,.int .i64 x.value,.int .i64 x.site,.slice xo x.outs.length xp] 42 (0,0)):=
     fun n=>⟨i+1,by simp,by omega,by omega,HW.out n⟩
    have HF:Hid _:=k7;clear h9 j2 h3 h4 h5 k6 k7 HW k8 k9;go_upto_region 19 with fail
    go_cut [133]from 67 to 133 (fun v w'=>v= .bool false/\∃ n,w'=wr.drewN n)
    case first=>as_aux_lemma=>
     have hiI:0<=(i:Int)/\(i:Int) < (SS.length:Int):=by omega
     rcases y2.out with rfl|⟨j,p,d0,q1,g5,hjl⟩
     ·have l0':wr.cell? ⟨gl,0,none⟩=some (.int .i64 k0):=l0;have l1':wr.cell? ⟨gl,1,none⟩=some (.int .i64 pp):=l1;have l2':wr.cell? ⟨gl,2,none⟩=some (.bool f0):=l2;have m0':wr.cell? ⟨gm,0,none⟩=some (.int .i64 k0):=m0;have m1':wr.cell? ⟨gm,1,none⟩=some (.int .i64 pp):=m1;have m2':wr.cell? ⟨gm,2,none⟩=some (.bool f0):=m2;clear l0 l1 l2 m0 m1 m2 y2;go_quiet (fail)
      go_wp2;go_meet
      case rel=>exact⟨rfl,_,rfl⟩
     ·have d5:decide (pp<=p)=false:=decide_eq_false (by omega);have d6:decide ((i:Int) > 0)=true:=decide_eq_true (by omega);have d7:decide ((0:Int) < (i:Int))=true:=decide_eq_true (by omega);have d8:decide (0 < i)=true:=decide_eq_true (by omega);have d9:0 < i:=by omega
      have hjs:(i:Int) - 1=(j:Int):=by omega
      have hji:0<=(j:Int)/\(j:Int) < (SS.length:Int):=by omega
      clear y2 d0 g5;go_quiet (fail)
      go_wp2;go_meet
      case rel=>exact⟨rfl,_,rfl⟩
    case rest=>as_aux_lemma=>
     obtain⟨rfl,nq,rfl⟩:=hcut;clear y2 g6;go_wp2_with fail
     go_roundg kk
     case rel=>exact HF.out nq
     case measure=>omega
   ·have h6:Hid (if x.fin≠2 then x.site= -1 else ∃ k:Nat,x.site=k/\k < SS.length/\FF k=false):=by
     rw[Hid]
     split
     ·rename_i h;exact k8.out.2 h
     ·rename_i h;exact k8.out.1 (by omega)
    have y9: ¬(i:Int) < (SS.length:Int):=by omega
    obtain⟨r0,r1,r2,r3,_⟩:=dP k6;have g0:Hid (Below w.heap.size w wr):=h5
    by_cases h2:x.fin=2
    ·obtain⟨k,h8,g9,j0⟩:∃ k:Nat,x.site=k/\k < SS.length/\FF k=false:=by
      have:=h6.out
      rwa [if_neg (by simp[h2])]at this
     obtain⟨gl,c1,e1,m4,_,h9⟩:=h3.row (by omega);simp only[Value.slice.injEq]at e1;obtain⟨rfl,_,rfl⟩:=e1;have l2:=(h9 k g9).2.2;rw[j0]at l2;rw[h8]at r2;have t2:(x.fin !=2)=false:=by simp[h2]
     have k0:decide ((k:Int)≥0)=true:=decide_eq_true (by omega);have k1:decide ((k:Int) < (SS.length:Int))=true:=decide_eq_true (by omega);have k2:0<=(k:Int)/\(k:Int) < (SS.length:Int):=by omega
     have z3:SS.length<=1000000:=h7.out;clear h9 h3 h4 h5 k6 h2 j0 h8 h6 k8 k9 h7;go_wp2;go_ret;exact⟨rfl,g0.out⟩
    ·have hs:x.site= -1:=by
      have:=h6.out
      rwa [if_pos (by simp[h2])]at this
     have t2:(x.fin !=2)=true:=by simp[h2]
     rw[hs]at r2;clear h3 h4 h5 k6 h2 hs h6 k8 k9 h7;go_wp2;go_ret;exact⟨rfl,g0.out⟩
end Go.Proofs.YtikffmloeifkpaaGreatDoor
