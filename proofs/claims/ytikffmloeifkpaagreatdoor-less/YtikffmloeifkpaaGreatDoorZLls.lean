/- Contracts. -/
import Derived.Test.YtikffmloeifkpaaGreatDoorL24
import Derived.Test.YtikffmloeifkpaaGreatDoorZXles
namespace Go.Proofs.YtikffmloeifkpaaGreatDoor
open Go.RowKit Go.Lib Go.Deep Go.ChangeMaps Go.MapKept
set_option maxRecDepth 100000 in
set_option maxHeartbeats 8000000 in
theorem bDC(s:ByteArray)(va:Value)(args:List Int)(fuel less:Int)(w:World)(ht:Tab w)(hm:s.size<=maxLen)(ha:xK w va args)(hf:-9223372036854775808<=fuel/\fuel<=9223372036854775807)(hl:-9223372036854775808<=less/\less<=9223372036854775807):
 Calls Tryz.prog 5 #[.string s,va,.int .i64 fuel,.int .i64 less] w fun e w'=>e= .returned (.bool true)/\Below w.heap.size w w':=by
 have h0:=aBP ht;have hs:=aLH w ht;have HA:Hid (xK w va args):=ha;obtain⟨sp,cp,e0,_⟩:=ha;have HT:Hid (Tab w):=ht;have y4:Hid _:=fun c hc w=>aMU c 40000 w hc (by decide);clear ht;subst e0;go_enter Tryz.func5,Tryz.ntmps5
 go_wp2_with fail
 refine hs.mono ?_;rintro e W1 ⟨rfl,b1⟩;have hr:=aA6 s W1 (HT.out.below b1 h0) hm;have hl1:=b1.size;clear hs;go_wp2_with fail
 refine hr.mono ?_;rintro e W2 ⟨b2,h5⟩;have hl2:=b2.size;have B2:Below w.heap.size w W2:=b1.trans (b2.mono (by omega));clear hr;rcases h5 with⟨hc,rfl⟩|⟨hc,ab,rfl,hp⟩
 ·have HB:Hid (Below w.heap.size w (W2.alloc (.cells #[.int .i64 (eZ s).1,.int .i64 (eZ s).2] 37))):=B2.alloc B2.size _;clear B2 b1 b2;go_wp2;go_ret;exact⟨rfl,HB.out⟩
 ·obtain⟨oF,k9⟩:∃ o:Obj,o= .cells #[.int .i64 0,.int .i64 0] 37:=⟨_,rfl⟩;have B3:Below w.heap.size w (W2.alloc oF):=B2.alloc B2.size _;have k8:=hp.next (w':=W2.alloc oF) (fun i hi=>Below.heap_alloc _ _ _ hi);clear hp B2 b1 b2;go_upto_region 3 with fail
  rw[<-k9];clear k9;have k1:Hid _:=B3;have y3:Hid _:=k8;have HC:Hid ((eZ s).1=0):=hc;clear B3 k8 hc;generalize W2.alloc oF=W3 at*;go_wp2_with fail
  refine(y4.out fuel hf _).mono ?_;rintro e W3 ⟨⟨n,rfl,n0,n1,_⟩,rfl⟩;have hwn:IntKind.i64.wrap (n+1)=n+1:=IntWalk.i64_in _ (by omega);have k6:=aMU less (n+1) W3 hl (by omega);clear y4;go_wp2_with fail
  refine k6.mono ?_;rintro e W3 ⟨⟨m,rfl,m0,m1,_⟩,rfl⟩;have h2:=bDA (aFH s) (qV (rdT s)) args (f:=n) (f':=m) (by omega);have h2:(kM s args m=kM s args n/\1<=(kM s args m).fin/\(kM s args m).fin<=5)\/((kM s args m).fin=3/\(kM s args m).outs <+:(kM s args n).outs):=h2;have h9:Hid _:=h2;have y1:=HA.out.next (fun i hi=>k1.out.block i hi);have k3:=aA5 y3.out HC.out y1 n;clear k6 h2;go_wp2_with fail
  refine k3.mono ?_;rintro e W4 hpost;obtain⟨va,rfl,hx,b4⟩:=hpost.rs;generalize kM s args n=x at*;obtain⟨vO,rfl,h1⟩:=hx
  obtain⟨xo,xp,rfl,h1⟩:∃ a p,vO= .slice a x.outs.length p/\aCR W4 vO x.outs:=by
   obtain⟨ao,cp,e,h⟩:=h1;exact⟨ao,cp,e,⟨ao,cp,e,h⟩⟩
  have z1:=k1.out.size;have B4:Below w.heap.size w W4:=k1.out.trans (b4.mono z1);obtain⟨oA,h7⟩:∃ o:Obj,o= .cells #[.int .i64 x.fin,.int .i64 x.value,.int .i64 x.site,.slice xo x.outs.length xp] 42:=⟨_,rfl⟩
  have kA:(W4.alloc oA).heap[W4.heap.size]?=some (.cells #[.int .i64 x.fin,.int .i64 x.value,.int .i64 x.site,.slice xo x.outs.length xp] 42 (0,0)):=by
   rw[h7];exact heap_alloc_new W4 _
  have nA:∀ i,i < W4.heap.size->(W4.alloc oA).heap[i]?=W4.heap[i]?:=fun i hi=>Below.heap_alloc _ _ _ hi;have rA:=h1.next nA;have BA:Below w.heap.size w (W4.alloc oA):=B4.alloc B4.size _;have k7:=(y3.out.next (fun i hi=>b4.block i hi)).next nA;have k2:=aA5 k7 HC.out (HA.out.next (fun i hi=>BA.block i hi)) m;have y9:W4.heap.size < (W4.alloc oA).heap.size:=by simp
  have y2:Hid _:=rA;have y5:Hid _:=kA;have y7:Hid _:=BA;clear hpost h1 rA kA nA BA k7 B4 b4 k3 y1;go_upto_region 10 with fail
  rw[<-h7];clear h7;generalize W4.alloc oA=W5 at*;go_wp2_with fail
  refine k2.mono ?_;rintro e W6 hpost;obtain⟨vb,rfl,hy,b6⟩:=hpost.rs;generalize kM s args m=y at*;obtain⟨vO,rfl,h1⟩:=hy
  obtain⟨yo,yp,rfl,h1⟩:∃ a p,vO= .slice a y.outs.length p/\aCR W6 vO y.outs:=by
   obtain⟨ao,cp,e,h⟩:=h1;exact⟨ao,cp,e,⟨ao,cp,e,h⟩⟩
  have z0:=y7.out.size;have hl6:=b6.size;have B6:Below w.heap.size w W6:=y7.out.trans (b6.mono z0);obtain⟨oB,h6⟩:∃ o:Obj,o= .cells #[.int .i64 y.fin,.int .i64 y.value,.int .i64 y.site,.slice yo y.outs.length yp] 42:=⟨_,rfl⟩;have nB:∀ i,i < W6.heap.size->(W6.alloc oB).heap[i]?=W6.heap[i]?:=fun i hi=>Below.heap_alloc _ _ _ hi
  have kB:(W6.alloc oB).heap[W6.heap.size]?=some (.cells #[.int .i64 y.fin,.int .i64 y.value,.int .i64 y.site,.slice yo y.outs.length yp] 42 (0,0)):=by
   rw[h6];exact heap_alloc_new W6 _
  have kA7:=((nB W4.heap.size (by omega)).trans (b6.block _ y9)).trans y5.out;have rB:=h1.next nB;have rA7:=(aCR.next y2.out (fun i hi=>b6.block i hi)).next nB;have BB:Below w.heap.size w (W6.alloc oB):=B6.alloc B6.size _;have hlB:W6.heap.size < (W6.alloc oB).heap.size:=by simp
  obtain⟨c,hc⟩:∃ c:Bool,c=true↔x=y:=by
   by_cases h:x=y
   ·exact⟨true,by simp[h]⟩
   ·exact⟨false,by simp[h]⟩
  have k4:=bD9 x y _ _ (W6.alloc oB) ⟨_,rfl,rA7⟩ ⟨_,rfl,rB⟩ c hc;have z3:Hid _:=rB;have h8:Hid _:=rA7;have k0:Hid _:=kA7;have z4:Hid _:=kB;have y6:Hid _:=BB;obtain⟨u0,u1,u2,u3,_⟩:=dP kA7;obtain⟨v0,v1,v2,v3,_⟩:=dP kB;clear hpost h1 rA7 rB kA7 kB nB BB B6 b6 k2 y2 y5;go_upto_region 11 with fail
  rw[<-h6];clear h6;generalize W6.alloc oB=W7 at*;go_wp2_with fail
  refine k4.mono ?_;rintro e W8 ⟨rfl,b8⟩;have hl8:=b8.size;have n8:∀ i,i < W7.heap.size->W8.heap[i]?=W7.heap[i]?:=fun i hi=>b8.block i hi;obtain⟨p0,p1,p2,p3,_⟩:=dP ((n8 W4.heap.size (by omega)).trans k0.out);obtain⟨q0,q1,q2,q3,_⟩:=dP ((n8 W6.heap.size (by omega)).trans z4.out);have rA8:=aCR.next h8.out n8;have rB8:=aCR.next z3.out n8;have y8:Hid (Below w.heap.size w W8):=y6.out.trans (b8.mono (by have:=y6.out.size;omega));clear k4 u0 u1 u2 u3 v0 v1 v2 v3 b8 n8
  by_cases h3:y.fin=3
  ·have t3:(y.fin !=3)=false:=by simp[h3]
   have h4:y.outs <+:x.outs:=by
    rcases h9.out with⟨e,_⟩|⟨_,e⟩
    ·rw[e];exact List.prefix_refl _
    ·exact e
   have y0:=bD4 y.outs x.outs _ _ W8 rB8 rA8 true (by simp[h4]);clear rA8 rB8 h3 h4 hc;go_wp2_with fail
   refine y0.mono ?_;rintro e W9 ⟨rfl,k5⟩;have z5:Hid (Below w.heap.size w W9):=y8.out.trans (xH.below k5 _);clear k5 y0;go_wp2;go_ret;exact⟨rfl,z5.out⟩
  ·have t3:(y.fin !=3)=true:=by simp[h3]
   obtain⟨e,f1,f5⟩:=h9.out.resolve_right (fun h=>h3 h.1);have z2:c=true:=hc.2 e.symm;have d1:decide (1<=y.fin)=true:=by simp[f1]
   have d5:decide (y.fin<=5)=true:=by simp[f5]
   clear rA8 rB8 h3 hc e h9;subst z2;generalize y.fin=yf at*;go_wp2;go_ret;exact⟨rfl,y8.out⟩
end Go.Proofs.YtikffmloeifkpaaGreatDoor
