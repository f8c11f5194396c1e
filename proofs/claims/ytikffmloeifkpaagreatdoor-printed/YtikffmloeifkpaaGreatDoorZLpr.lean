/- Contracts. -/
import Derived.Test.YtikffmloeifkpaaGreatDoorZLpk
namespace Go.Proofs.YtikffmloeifkpaaGreatDoor
open Go.RowKit Go.Lib Go.Deep Go.Maps Go.ChangeMaps Go.MapKept
set_option maxRecDepth 100000 in
set_option maxHeartbeats 16000000 in
theorem bHD(s:ByteArray)(va:Value)(args:List Int)(fuel:Int)(w:World)(ht:Tab w)(hP:P10 w)(hm:s.size<=maxLen)(ha:xK w va args)(hf:-9223372036854775808<=fuel/\fuel<=9223372036854775807):
 Calls Tryz.prog 10 #[.string s,va,.int .i64 fuel] w fun e w'=>e= .returned (.bool true)/\Below w.heap.size w w':=by
 have h0:=aBP ht;have hs:=aLH w ht;have HA:Hid (xK w va args):=ha;obtain⟨sp,cp,e0,_⟩:=ha;have HT:Hid (Tab w):=ht;have j0:Hid (P10 w):=hP;have HP1:Hid _:=fun w=>aMU fuel 20001 w hf Ob;have HM:Hid (s.size<=maxLen):=hm;clear ht hP hm;subst e0;go_enter Tryz.func10,Tryz.ntmps10
 go_wp2_with fail
 refine hs.mono ?_;rintro e W1 ⟨rfl,b1⟩;have hr:=aA6 kpT W1 (HT.out.below b1 h0) (by unfold maxLen;decide);unfold kpT at hr;have hl1:=b1.size;clear hs;go_wp2_with fail
 refine hr.mono ?_;rintro e W2 ⟨b2,h1⟩;have hl2:=b2.size;have B2:Below w.heap.size w W2:=b1.trans (b2.mono Oa);clear hr;replace h1:=h1.resolve_left (fun h=>h.1 (by have:=bGO;unfold kpT at this;rw[this]));obtain⟨_,ab,rfl,hp⟩:=h1;have hp:PgW ab kpT W2:=hp;have g3:(eZ kpT).1=0:=by rw[bGO]
 obtain⟨oF,h3⟩:∃ o:Obj,o= .cells #[.int .i64 0,.int .i64 0] 37:=⟨_,rfl⟩;have B3:Below w.heap.size w (W2.alloc oF):=B2.alloc B2.size _;have g0:=hp.next (w':=W2.alloc oF) (fun i hi=>On hi);have h6:=bFS g0 g3 (HT.out.below B3 h0) (j0.out.below B3);have HB3:Hid _:=B3;obtain⟨L,hL,kw1,⟨kw2,kw3⟩,hkf,ks1,g2⟩:=bJV;rw[hL]at h6;have HKW:Hid (kM L [3] 9=⟨1,8,-1,[]⟩):=g2;have kw4:L.size<=50000000:=Oa
 clear hp B2 b1 b2 B3 g0 hL g2 g3;go_upto_region 3 with fail
 rw[<-h3];clear h3;generalize W2.alloc oF=W3 at*;go_wp2_with fail
 refine h6.mono ?_;rintro e W4 ⟨rfl,b4⟩;have B4:Below w.heap.size w W4:=HB3.out.trans (b4.mono HB3.out.size);have h9:=bFV L W4 kw1 kw2 kw3 kw4;have HB4:Hid _:=B4;clear h6 b4 B4;go_wp2_with fail
 refine h9.mono ?_;rintro e W5 ⟨rfl,b5⟩;have B5:Below w.heap.size w W5:=HB4.out.trans (b5.mono HB4.out.size);have hr:=aA6 L W5 (HT.out.below B5 h0) (by unfold maxLen;omega);have y1:Hid _:=B5;clear h9 b5 B5 kw1 kw3;go_wp2_with fail
 refine hr.mono ?_;rintro e W6 ⟨b6,h1⟩;replace h1:=h1.resolve_left (fun h=>h.1 ks1);obtain⟨_,ab2,rfl,hp⟩:=h1;have B6:Below w.heap.size w W6:=y1.out.trans (b6.mono y1.out.size);clear hr b6;obtain⟨oF,h3⟩:∃ o:Obj,o= .cells #[.int .i64 0,.int .i64 0] 37:=⟨_,rfl⟩;obtain⟨o3,z3⟩:∃ o:Obj,o= .cells #[.int .i64 3] 2:=⟨_,rfl⟩;have s6:(W6.alloc oF).heap.size=W6.heap.size+1:=Od
 have n6:∀ i,i < W6.heap.size->((W6.alloc oF).alloc o3).heap[i]?=W6.heap[i]?:=fun i hi=>(On Oa).trans (On hi)
 have a6:xK ((W6.alloc oF).alloc o3) (.slice (some ⟨W6.heap.size+1,0,none⟩) 1 1) [3]:=by
  refine aF8 (cs:=#[.int .i64 3]) (t:=2) ?_ rfl rfl;have:=Qb (W6.alloc oF) o3;rw[s6]at this;rw[this,z3]
 have h8:=aA5 (hp.next n6) ks1 a6 9;rw[HKW.out]at h8;have HB7:Hid (Below w.heap.size w ((W6.alloc oF).alloc o3)):=(B6.alloc B6.size _).alloc (Oi B6.size) _;clear B6 n6 a6 hp s6;go_upto_region 12 with fail
 rw[<-h3];clear h3;go_wp2_with fail
 rw[<-z3];clear z3;generalize (W6.alloc oF).alloc o3=W7 at*;refine h8.mono ?_;rintro e W8 hpost;obtain⟨v8,rfl,⟨vO,rfl,h2⟩,b8⟩:=hpost.rs;have B8:Below w.heap.size w W8:=HB7.out.trans (b8.mono HB7.out.size);clear hpost h8 b8;obtain⟨ao,cq,rfl,hrl,hr1⟩:=h2;obtain⟨oR,z0⟩:∃ o:Obj,o= .cells #[.int .i64 1,.int .i64 8,.int .i64 (-1),.slice ao 0 cq] 42:=⟨_,rfl⟩
 have kR:(W8.alloc oR).heap[W8.heap.size]?=some (.cells #[.int .i64 1,.int .i64 8,.int .i64 (-1),.slice ao 0 cq] 42 (0,0)):=by
  rw[z0];exact Qb W8 _
 have ra:R4W (W8.alloc oR) ⟨1,8,-1,[]⟩ (.agg #[.int .i64 1,.int .i64 8,.int .i64 (-1),.slice ao 0 cq]):=⟨_,rfl,_,_,rfl,by unfold maxLen;decide,fun h=>absurd h Ob⟩;have g6:Calls Tryz.prog 25 #[.agg #[.int .i64 1,.int .i64 8,.int .i64 (-1),.slice ao 0 cq],.bool true,.int .i64 8,.int .i64 0] (W8.alloc oR) fun e w'=>e= .returned (.bool true)/\Below (W8.alloc oR).heap.size (W8.alloc oR) w':=aNS ⟨1,8,-1,[]⟩ _ true 8 0 _ ra;have HB9:Hid (Below w.heap.size w (W8.alloc oR)):=B8.alloc B8.size _;clear ra B8 hr1 hrl;dsimp only;go_upto_region 13 with fail
 rw[<-z0];clear z0;obtain⟨u0,u1,u2,u3,_⟩:=dP kR;clear kR;generalize W8.alloc oR=W9 at*;go_wp2_with fail
 refine g6.mono ?_;rintro e WA ⟨rfl,bA⟩;have BA:Below w.heap.size w WA:=HB9.out.trans (bA.mono HB9.out.size);have hr:=aA6 s WA (HT.out.below BA h0) HM.out;have h7:Hid _:=BA;clear g6 bA BA u0 u1 u2 u3;go_wp2_with fail
 refine hr.mono ?_;rintro e WB ⟨bB,h1⟩;have BB:Below w.heap.size w WB:=h7.out.trans (bB.mono h7.out.size);clear hr bB;rcases h1 with⟨hc,rfl⟩|⟨hc,ab,rfl,hp⟩
 ·have HB:Hid (Below w.heap.size w (WB.alloc (.cells #[.int .i64 (eZ s).1,.int .i64 (eZ s).2] 37))):=BB.alloc BB.size _;clear BB;go_wp2;go_ret;exact⟨rfl,HB.out⟩
 obtain⟨oF,h3⟩:∃ o:Obj,o= .cells #[.int .i64 0,.int .i64 0] 37:=⟨_,rfl⟩;have BC:Below w.heap.size w (WB.alloc oF):=BB.alloc BB.size _;have y8:=hp.next (w':=WB.alloc oF) (fun i hi=>On hi);have h6:=bFS y8 hc (HT.out.below BC h0) (j0.out.below BC);obtain⟨Q,hQ,kw1,⟨kw2,kw3⟩,kw4,g4,h5⟩:=bJU hc;rw[hQ]at h6;have HJT:Hid (prT Q=Q):=g4;have d4:Hid _:=h5;have HC:Hid ((eZ s).1=0):=hc;have m8:Hid (PgW ab s (WB.alloc oF)):=y8;have HBC:Hid _:=BC;clear hp BB BC y8 g4 h5 hQ hc;go_upto_region 17 with fail
 rw[<-h3];clear h3;generalize WB.alloc oF=WC at*;go_wp2_with fail
 refine h6.mono ?_;rintro e WD ⟨rfl,bD⟩;have BD:Below w.heap.size w WD:=HBC.out.trans (bD.mono HBC.out.size);have j9:=m8.out.next (fun i hi=>bD.block i hi);have h9:=bFV Q WD kw1 kw2 kw3 kw4;have HBD:Hid _:=BD;have m7:Hid (PgW ab s WD):=j9;clear h6 bD BD j9 m8;go_wp2_with fail
 refine h9.mono ?_;rintro e WE ⟨rfl,bE⟩;have BE:Below w.heap.size w WE:=HBD.out.trans (bE.mono HBD.out.size);have j8:=m7.out.next (fun i hi=>bE.block i hi);have y0:Hid _:=BE;have m6:Hid (PgW ab s WE):=j8;clear h9 bE BE j8 m7 kw1 kw2 kw3
 by_cases hz:4000 < Q.size
 ·have hzI:decide ((Q.size:Int) > 4000)=true:=decide_eq_true Oa;clear hz;go_wp2;go_ret;exact⟨rfl,y0.out⟩
 have hzI:decide ((Q.size:Int) > 4000)=false:=decide_eq_false Oa;obtain⟨q1,q2,q3,q4,q5⟩:=d4.out Oa;have hr:=aA6 Q WE (HT.out.below y0.out h0) (by unfold maxLen;omega);have m1:Hid _:=q2;have z9:Hid _:=q3;have d9:Hid _:=q4;have HQ5:Hid _:=q5;have k8:Hid _:=q1;clear hz d4 q2 q3 q4 q5;go_wp2_with fail
 refine hr.mono ?_;rintro e WF ⟨bF,h1⟩;replace h1:=h1.resolve_left (fun h=>h.1 q1);obtain⟨_,ab3,rfl,hp⟩:=h1;obtain⟨oF,h3⟩:∃ o:Obj,o= .cells #[.int .i64 0,.int .i64 0] 37:=⟨_,rfl⟩;have j7:=m6.out.next (fun i hi=>bF.block i hi);have BF:Below w.heap.size w WF:=y0.out.trans (bF.mono y0.out.size)
 have kF:(WF.alloc oF).heap[WF.heap.size]?=some (.cells #[.int .i64 0,.int .i64 0] 37 (0,0)):=by
  rw[h3];exact Qb WF _
 have HBG:Hid (Below w.heap.size w (WF.alloc oF)):=BF.alloc BF.size _;have j1:Hid (PgW ab s (WF.alloc oF)):=j7.next (fun i hi=>On hi);have d8:Hid (PgW ab3 Q (WF.alloc oF)):=hp.next (fun i hi=>On hi);clear hr bF hp j7 BF m6 q1;go_upto_region 24 with fail
 rw[<-h3];clear h3;obtain⟨u0,u1,_⟩:=iV kF;clear kF;generalize WF.alloc oF=WG at*;have g8:=tY j1.out HC.out;go_wp2_with fail
 clear u0 u1;refine g8.mono ?_;rintro e WH ⟨vl,rfl,z8,bH⟩;have BH:Below w.heap.size w WH:=HBG.out.trans (bH.mono HBG.out.size);have j6:=j1.out.next (fun i hi=>bH.block i hi);have y5:=d8.out.next (fun i hi=>bH.block i hi);have g7:=tY y5 k8.out;have HFL:Hid _:=z8;have HBH:Hid _:=BH;have m5:Hid (PgW ab s WH):=j6;have d7:Hid (PgW ab3 Q WH):=y5;obtain⟨al,cl,rfl⟩:=z8.slice;clear g8 bH BH j6 y5 j1 d8 z8;go_wp2_with fail
 refine g7.mono ?_;rintro e WI ⟨vm,rfl,z7,bI⟩;have BI:Below w.heap.size w WI:=HBH.out.trans (bI.mono HBH.out.size);have j5:=m5.out.next (fun i hi=>bI.block i hi);have y4:=d7.out.next (fun i hi=>bI.block i hi);have k3:=HFL.out.next (fun i hi=>bI.block i hi);have y6:=bFS y4 k8.out (HT.out.below BI h0) (j0.out.below BI);rw[HJT.out]at y6;have k7:Hid _:=k3;have k5:Hid _:=z7;have HBI:Hid _:=BI;have m4:Hid (PgW ab s WI):=j5;have d6:Hid (PgW ab3 Q WI):=y4;obtain⟨am,cm,rfl⟩:=z7.slice;clear g7 bI BI j5 y4 k3 z7 HFL m5 d7;go_wp2_with fail
 refine y6.mono ?_;rintro e WJ ⟨rfl,bJ⟩;have BJ:Below w.heap.size w WJ:=HBI.out.trans (bJ.mono HBI.out.size);have y7:=m4.out.next (fun i hi=>bJ.block i hi);have y3:=d6.out.next (fun i hi=>bJ.block i hi);have k2:=k7.out.next (fun i hi=>bJ.block i hi);have k1:=k5.out.next (fun i hi=>bJ.block i hi);have g1:=bG8 y7 HC.out;have y9:=fun n=>bG8 (y3.next (w':=WJ.drewN n) (fun _ _=>rfl)) k8.out;rw[<-d9.out]at y9;generalize gJ (tK (rdT s))=nm at*;have k0:=SK.len z9.out;have HBJ:Hid _:=BJ;have m3:Hid (PgW ab s WJ):=y7;have HQJ:Hid (PgW ab3 Q WJ):=y3;have k6:Hid _:=k2;have k4:Hid _:=k1;rw[<-k0];clear y6 bJ BJ y7 y3 k2 k1 k7 k5 m4 d6 d9 k0;go_wp2_with fail
 refine g1.mono ?_;rintro e WK ⟨rfl,n1,rfl⟩;clear g1;go_wp2_with fail
 refine(y9 n1).mono ?_;rintro e WK ⟨rfl,n2,rfl⟩;clear y9
 have j2:Hid (∀ i:Nat,i < (fS s).length->∃ (gl gm:Nat) (k:Int) (f:Bool),al=some ⟨gl,0,none⟩/\am=some ⟨gm,0,none⟩/\WJ.cell? ⟨gl,i*3,none⟩=some (.int .i64 k)/\WJ.cell? ⟨gl,i*3+2,none⟩=some (.bool f)/\WJ.cell? ⟨gm,i*3,none⟩=some (.int .i64 k)/\WJ.cell? ⟨gm,i*3+2,none⟩=some (.bool f)):=fun i hi=>by
  have j4:=z9.out;have g5:i < (fS Q).length:=by rw[<-SK.len j4];exact hi
  obtain⟨gl,c1,e1,_,_,hcl⟩:=k6.out.row Oa;obtain⟨gm,c2,e2,_,_,hcm⟩:=k4.out.row Oa;simp only[Value.slice.injEq]at e1 e2;obtain⟨l0,_,l2⟩:=hcl i hi;obtain⟨m0,_,m2⟩:=hcm i g5
  have hk:(fS s)[i].1=(fS Q)[i].1:=by
   have:=congrArg (fun l=>l[i]?) (show List.map Prod.fst (fS s)=List.map Prod.fst (fS Q)from j4);simpa[List.getElem?_map,List.getElem?_eq_getElem hi,List.getElem?_eq_getElem g5]using this
  rw[<-hk]at m0;rw[<-m1.out]at m2;exact⟨gl,gm,_,_,e1.1,e2.1,l0,l2,m0,m2⟩
 have hfew:(fS s).length<=1000000:=by
  obtain⟨H,g,cap,pb,t,vA,vF,vS,hab,hp⟩:=m3.out.ex;have:=aAS hp HC.out (good hp.er HC.out);rw[(yH hp.er).1]at this;exact this
 have HS:Hid (xH WJ ((WJ.drewN n1).drewN n2)):=⟨rfl,rfl,rfl,rfl⟩;generalize (WJ.drewN n1).drewN n2=WK at*;generalize (fS s).length=SL at*;clear k6 k4 m1 z9;go_wp2_with fail
 go_loopg [23] SL (fun m v wr=>∃ i:Nat,v= .int .i64 i/\i<=SL/\SL<=i+m/\xH WJ wr)
 case atStart=>exact⟨0,rfl,Qe _,Oa,HS.out⟩
 case round=>
  clear HS;obtain⟨i,rfl,k0,z4,h4⟩:=hrel
  rename World=>WR
  have d3:Hid (xH WJ WR):=h4
  by_cases z6:i < SL
  ·have z5:(i:Int) < (SL:Int):=Oa
   have hiI:0<=(i:Int)/\(i:Int) < (SL:Int):=Oa
   obtain⟨gl,gm,k,f,rfl,rfl,l0,l2,m0,m2⟩:=j2.out i z6;have l0:=(Qf (a:=⟨gl,i*3,none⟩) (by rw[h4.1])).trans l0;have l2:=(Qf (a:=⟨gl,i*3+2,none⟩) (by rw[h4.1])).trans l2;have m0:=(Qf (a:=⟨gm,i*3,none⟩) (by rw[h4.1])).trans m0;have m2:=(Qf (a:=⟨gm,i*3+2,none⟩) (by rw[h4.1])).trans m2;obtain⟨gg,rfl⟩:∃ q,gk=q+1:=⟨gk - 1,Oa⟩;have HI:Hid (i < SL/\SL<=i+(gg+1)):=⟨z6,z4⟩;have d1:(k !=k)=false:=Od
   have d2:(f !=f)=false:=Od
   clear h4 k0 z4 j2;go_upto_region 33 with fail
   go_quiet (fail)
   go_wp2;go_roundg gg
   case rel=>exact⟨i+1,Od,Oi HI.out,Oi HI.out,d3.out.drewN _⟩
   case measure=>omega
  ·have z5: ¬(i:Int) < (SL:Int):=Oa
   have g9:Below w.heap.size w WR:=HBJ.out.trans ((h4.below w.heap.size).mono Ol);have HPR:Hid (PgW ab s WR):=m3.out.next (fun i _=>by rw[h4.1]);have HQR:Hid (PgW ab3 Q WR):=HQJ.out.next (fun i _=>by rw[h4.1]);have k9:Hid _:=g9;clear h4 d3 j2 g9 k0 z4 z6;go_wp2_with fail
   refine(HP1.out WR).mono ?_;rintro e WR ⟨⟨n,rfl,n0,n1,_⟩,rfl⟩;have d0:=HA.out.next (fun i hi=>k9.out.block i hi);have h8:=aA5 HPR.out HC.out d0 n;clear d0;go_wp2_with fail
   refine h8.mono ?_;rintro e W1 hpost;obtain⟨va,rfl,⟨vO,rfl,h2⟩,b1⟩:=hpost.rs;clear hpost h8;obtain⟨oA,z2⟩:∃ o:Obj,o= .cells #[.int .i64 (kM s args n).fin,.int .i64 (kM s args n).value,.int .i64 (kM s args n).site,vO] 42:=⟨_,rfl⟩;have nA:∀ i,i < WR.heap.size->(W1.alloc oA).heap[i]?=WR.heap[i]?:=fun i hi=>(On (Oi b1.size)).trans (b1.block i hi)
   have kA:(W1.alloc oA).heap[W1.heap.size]?=some (.cells #[.int .i64 (kM s args n).fin,.int .i64 (kM s args n).value,.int .i64 (kM s args n).site,vO] 42 (0,0)):=by
    rw[z2];exact Qb W1 _
   have d5:Hid (aCR (W1.alloc oA) vO (kM s args n).outs):=h2.next (fun i hi=>On hi);have h7:Hid (Below w.heap.size w (W1.alloc oA)):=(k9.out.trans (b1.mono k9.out.size)).alloc (Qa k9.out.size b1.size) _;have y2:=aA5 (HQR.out.next nA) k8.out (HA.out.next (fun i hi=>h7.out.block i hi)) n;rw[<-HQ5.out]at y2;have m9:Hid _:=kA;have hlA:W1.heap.size < (W1.alloc oA).heap.size:=Od
   generalize kM s args n=x at*;obtain⟨xo,xp,rfl,_⟩:=h2;clear kA nA b1;go_upto_region 37 with fail
   rw[<-z2];clear z2;generalize W1.alloc oA=W2 at*;go_wp2_with fail
   refine y2.mono ?_;rintro e W3 hpost;obtain⟨vb,rfl,⟨vP,rfl,h2⟩,b3⟩:=hpost.rs;clear hpost y2;obtain⟨oB,z1⟩:∃ o:Obj,o= .cells #[.int .i64 x.fin,.int .i64 x.value,.int .i64 x.site,vP] 42:=⟨_,rfl⟩;have nB:∀ i,i < W2.heap.size->(W3.alloc oB).heap[i]?=W2.heap[i]?:=fun i hi=>(On (Oi b3.size)).trans (b3.block i hi)
   have kB:(W3.alloc oB).heap[W3.heap.size]?=some (.cells #[.int .i64 x.fin,.int .i64 x.value,.int .i64 x.site,vP] 42 (0,0)):=by
    rw[z1];exact Qb W3 _
   have kA:=(nB _ hlA).trans m9.out;have ra:R4W (W3.alloc oB) x (.agg #[.int .i64 x.fin,.int .i64 x.value,.int .i64 x.site,.slice xo x.outs.length xp]):=⟨_,rfl,d5.out.next nB⟩;have rb:R4W (W3.alloc oB) x (.agg #[.int .i64 x.fin,.int .i64 x.value,.int .i64 x.site,vP]):=⟨_,rfl,h2.next (fun i hi=>On hi)⟩;have HBB:Hid (Below w.heap.size w (W3.alloc oB)):=(h7.out.trans (b3.mono h7.out.size)).alloc (Qa h7.out.size b3.size) _;obtain⟨yo,yp,rfl,_⟩:=h2;have j3:=bD9 x x _ _ _ ra rb true Od;obtain⟨u0,u1,u2,u3,_⟩:=dP kA;obtain⟨v0,v1,v2,v3,_⟩:=dP kB;clear kA kB nB ra rb b3 m9 d5;go_upto_region 38 with fail
   rw[<-z1];clear z1;generalize W3.alloc oB=W4 at*;go_wp2_with fail
   refine j3.mono ?_;rintro e W5 ⟨rfl,b5⟩;have y1:Hid (Below w.heap.size w W5):=HBB.out.trans (b5.mono HBB.out.size);clear j3 b5 u0 u1 u2 u3 v0 v1 v2 v3;go_wp2;go_ret;exact⟨rfl,y1.out⟩
end Go.Proofs.YtikffmloeifkpaaGreatDoor
