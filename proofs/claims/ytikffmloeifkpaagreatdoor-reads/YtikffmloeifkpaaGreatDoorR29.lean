/- Contracts. -/
import Derived.Test.YtikffmloeifkpaaGreatDoorR27
import Derived.Test.YtikffmloeifkpaaGreatDoorR28
import Derived.Test.YtikffmloeifkpaaGreatDoorR25
import Derived.Test.YtikffmloeifkpaaGreatDoorR17
import Derived.Test.YtikffmloeifkpaaGreatDoorR15
set_option maxHeartbeats 16000000
set_option maxRecDepth 100000
namespace Go.Proofs.YtikffmloeifkpaaGreatDoor
open Go.RowKit Go.Lib Go.Deep Go.ChangeMaps Go.MapKept Tryz
section
variable {H X U:Nat} {C L:List NQ} {I A F:List Int} {m:Int} {s:Ns} {Y vI D M B R:Value} {V:List V3} {S:List (ByteArray × Int)} {FQ:List (Nat × Nat)} {w:World}
theorem aFG:∀ (ps:List aU) (i:Nat) (s:Ns),(aEE ps i s).a=0->s.a=0
 |[],_,_,h=>h
 |p::r,i,s,h=>by
  rw[xS]at h;have a:(xX p i s).a=0:=aFG r (i+1) {xX p i s with b:=(xX p i s).b++[p.f]} h
  grind[xX,Ns.e0]
theorem aHL:∀ {b:List Int} {a:List (Int × (Ns->Ns))} {lo hi:Int} {K:Int->Prop},xC H X U I A F m Y vI D M V C b a lo hi K->(∀ (i:Nat) (s:Ns),(whQ a i s).a=0->s.a=0)/\∀ j,K j->lo<=j/\j < hi
 |[],_,lo,hi,K,⟨h,_,h2⟩=>⟨fun i s e=>by subst h;exact e,Qh⟩
 |y::b,_,lo,hi,K,⟨n,g,r,k,K1,K2,h,_,h1,h2,h3,_,h4⟩=>by
  obtain⟨d,l⟩:=aHL h2;have f:=h2.le;refine⟨fun i s e=>?_,fun j c=>?_⟩
  ·subst h;have e:(whQ r (i+1) (g (if 4<=i then s.e0 5 n.at_ else s))).a=0:=e;have e:=h1.1.1.a _ (d _ _ e)
   grind [Ns.e0]
  ·rcases h4 j c with e|e
   ·have:=h1.1.2 j e;omega
   grind
section
variable (Q:aBX C I S) (hF:aAN C F FQ) (J:∀ x,dA x 1 S 0 < A.length) (E:∀ x,dA x 2 S 0 < F.length) (O:I.length<=100000) (T:F.length<=100000) (N:C.length<=100000)
include Q hF J E O T N
theorem aW1{lo k:Int}{G:Ns->Ns}(h0:0<=lo)(Z:FnP C S FQ lo k G)(hL:vW C L)(hs:(s.d.length:Int)<=lo)(h:gZ H X U L I A F m s Y vI D M B R V w):
 Calls prog 63 #[Qd X,Qc k] w fun e f=>e= .returned (.tuple #[])/\lo<=k/\((G s).d.length:Int)<=k+1/\((G s).a=0->s.a=0)/\∃ a c d,gZ H X U a I A F m (G s) Y vI D M c d V f/\Nx X U Y B R c d w f/\xZ lo (k+1) L a/\aE6 C A F (k+1) (G s).a a k:=by
 obtain⟨P,ws,bd,p,y,k0,h1,v,j,x,z,rfl,K,W,l,n⟩:=Z;obtain⟨k,rfl⟩:=Int.eq_ofNat_of_zero_le k0.1;have o:C[k]?=some P:=by have:=k0.2;simpa using this
 have a3:=(List.getElem?_eq_some_iff.1 o).1;obtain⟨t,q,w2,w3⟩:=aQK (X:=X) (U:=U) (m:=m) (Y:=Y) (vI:=vI) (D:=D) (M:=M) (V:=V) (H:=H) Q hF J E O T N ws _ lo p K h0 v;obtain⟨r,b1,u,g⟩:=aTZ (X:=X) (U:=U) (m:=m) (Y:=Y) (vI:=vI) (D:=D) (M:=M) (V:=V) (H:=H) Q hF J E O T N W Oa x z;obtain⟨wc,wr⟩:=aHL q
 have k1:p<=k:=by
  have:=(b1.1.2 y g.1).1;omega
 refine(bA0 N o l n j k1 q b1 hL Oa h).mono ?_;rintro e f ⟨rfl,q1,q2,a,c,d,q3,q4,q5,⟨b,q6,q7⟩,q8,q9,a2⟩;refine⟨rfl,Oa,Oa,fun e=>?_,a,c,d,q3,q4,q5,fun e=>?_⟩
 ·have e:=aFG _ _ _ (wc _ _ (b1.1.1.a _ e));exact e
 ·refine⟨P,b,y,t,r,_,k0,⟨Oa,by simpa using q6⟩,q7,q8,q1,n,l,j,g,w3,w2,u,fun i hi=>⟨?_,q9 e i hi⟩,fun i hi=>⟨?_,a2 e i hi⟩,Oa⟩
  ·have:=wr i hi;omega
  ·have:=(b1.1.2 i hi).2;omega
end
end
section
variable {H U:Nat} {L C:List NQ} {A F:List Int} {ns Z g:Nat} {Y D M B:Value} {V:List V3} {K:Int->Prop}
theorem Bw.ck{w:World}(h0:qQ H U L A F ns Y D M B V w):Ck H U L A F ns Y D M B V w.1.size (Bw H U L A F ns Y D M B V w) where
 fd _W h:=Bw.fd h
 nx _W _W2 h hp:=Bw.bz h hp
 far _W _b _x _y _u _v h hb _q:=Bw.set (Bw.set h hb _ _) hb _ _
 far2 _W _W1 _b _j _u h hX hb:=Bw.set h (Qm (Bw.fr hX).size hb) _ _
 sz _W h:=(Bw.fr h).size
 vs k e:=(Bw.start h0).vs k e
theorem aSR(n:Nat):madeCells #[Qc 0,Qc 0] (n*2)=(qZ (List.replicate n (0,0))).toArray:=by
 have h:∀ n:Nat,qZ (List.replicate n ((0:Int),(0:Int)))=List.replicate (n*2) (Qc 0):=fun n=>by
  induction n with
  |zero=>rfl
  |succ n ih=>rw[List.replicate_succ,qZ,ih,show(n+1)*2=n*2+1+1 by omega];rfl
 rw[h];refine Array.ext (by simp[madeCells]) (fun i a b=>?_);have:i % 2=0\/i % 2=1:=Oa
 rcases this with e|e<;>simp[madeCells,e]
theorem Bw.int{w W:World}(h:Bw H U L A F ns Y D M B V w W){v:Value}{a:List Int}(d:w.ownsRow H 3 1 v a.length (fQ a)){i:Nat}{y:Int}(j:a[i]?=some y):∃ g J,v= Qe g a.length J/\W.cell? ⟨g,i,none⟩=some (Qc y):=by
 obtain⟨g,J,e,b⟩:=dQ d j;obtain⟨a,f⟩:=h.f0.d;obtain⟨⟨c,h0⟩,_⟩:=aW d (k:=g) (by rw[e];rfl);exact⟨g,J,e,(Qo (h.fr.keep g (Qp w _ b) (cV f h0 Ob))).t b⟩
theorem aYN(hO:aM8 C L A F)(hZ:L.length<=100000)(b8:A.length<=100000)(m9:F.length<=100000)(m5:ns<=1000000)(hF:∀ a5∈F,aXD C L A F ns a5)(w:World)(hw:qQ H U L A F ns Y D M B V w):
 Calls prog 67 #[Qd U] w fun e a=>e= .returned (.tuple #[])/\gY H U L A F ns Y D M B V w a:=by
 obtain⟨af,u,rfl,_⟩:=bP hw.fns
 have j7:∀ W,qQ H U L A F ns Y D (.slice af F.length u) B V W->W.cell? ⟨U,3,none⟩=some (.slice af F.length u):=fun W h=>by
  obtain⟨vI,m,hp⟩:=h.prog;rw[cell_of_row _ _ _ _ _ _ hp];rfl
 have HE:Hid (gY H U L A F ns Y D (.slice af F.length u) B V w w):=⟨hw,Fd.refl _ _⟩;clear hw;go_enter func67,ntmps67
 go_upto_region 1 with fail
 go_loopg [2] (F.length+1) (fun x v2 wr=>∃ i:Nat,v2= Qc i/\i+x=F.length+1/\i<=F.length/\gY H U L A F ns Y D (.slice af F.length u) B V w wr)
 case atStart=>exact⟨0,rfl,Od,Od,HE.o⟩
 case round=>
  clear HE;obtain⟨i,rfl,i2,i1,hP⟩:=hrel;have p3:=j7 wr hP.1;have HP:Hid (gY H U L A F ns Y D (.slice af F.length u) B V w wr):=hP;have y1:=hP.1;clear hP
  by_cases hi:i < F.length
  ·have t0:decide ((i:Int) < (F.length:Int))=true:=by simp;omega
   obtain⟨m,rfl⟩:=Oj gk;have f8:0<=(i:Int)/\(i:Int) < (F.length:Int):=Oa
   have l4:IntKind.i64.wrap ((i:Int)+1)=(i:Int)+1:=IntWalk.i64_in _ Oa;obtain⟨a5,hx⟩:∃ a5,F[i]?=some a5:=⟨F[i],List.getElem?_eq_getElem _⟩;obtain⟨f,Z,b,K,Kw,hf,h7,hv,i8,l6,h5,hN,hb,g5,z9⟩:=hF a5 (Qr hx);obtain⟨b4,gr,a4,b1,c1,b2,c2,b3,c3,rfl,i6,rfl,k7,g0,e0,e1,e2,e3,e4,e5,e6,e7,e8,e9,a6⟩:=y1.p0 hf;obtain⟨gf,c9,j0,j9⟩:=dQ y1.fns hx;simp only[Value.slice.injEq]at j0;obtain⟨rfl,-,rfl⟩:=j0;obtain⟨g6,c5,j2,_⟩:=dQ k7.k (i:=0) (y:=b) (by rw[h5];rfl);simp only[Value.slice.injEq]at j2;obtain⟨rfl,-,rfl⟩:=j2;obtain⟨E,hE⟩:∃ E,E=Bw H U L A F ns (Qe gr L.length a4) D (Qe gf F.length u) B V wr:=⟨_,rfl⟩;have hC:Ck H U L A F ns (Qe gr L.length a4) D (Qe gf F.length u) B V wr.1.size E:=by rw[hE];exact Bw.ck y1
   have HR:Hid (In E wr):=by unfold Hid In;rw[hE];exact Bw.start y1
   have d0:∀ W,In E W->gY H U L A F ns (Qe gr L.length a4) D (Qe gf F.length u) B V wr W:=fun W h=>by unfold In at h;rw[hE]at h;exact⟨h.fd,h.fr⟩
   have k8:∀ W,In E W->W.cell? ⟨g6,0,none⟩=some (Qc b):=fun W h=>by
    unfold In at h;rw[hE]at h;obtain⟨_,_,e,a7⟩:=Bw.int h k7.k (i:=0) (y:=b) (by rw[h5];rfl);simp only[Value.slice.injEq,Option.some.injEq,Addr.mk.injEq]at e;obtain⟨⟨rfl,-⟩,-⟩:=e;exact a7
   have k5:∀ (j:Nat) c,f.e[j]?=some c->∃ gw,b3=some ⟨gw,0,none⟩/\∀ W,In E W->W.cell? ⟨gw,j,none⟩=some (Qc c):=fun j c hc=>by
    obtain⟨gw,_,e,_⟩:=dQ k7.h hc;simp only[Value.slice.injEq]at e;refine⟨gw,e.1,fun W h=>?_⟩;unfold In at h;rw[hE]at h;obtain⟨_,_,e',a7⟩:=Bw.int h k7.h hc;simp only[Value.slice.injEq,e.1,Option.some.injEq,Addr.mk.injEq]at e';obtain⟨⟨rfl,-⟩,-⟩:=e';exact a7
   have f5:0<=(b4:Int)/\(b4:Int) < (L.length:Int):=Oa
   have y0:=Qp _ _ g0;have k9:=Qp _ _ e0;have j4:=Qp _ _ j9;dsimp only at y0 k9 j4;have d4:Hid (f.c=[b]):=h5;have HV:Hid (f.b=(Z:Int)):=h7;have d1:Hid _:=z9;clear h5 h7 z9 hE k7 y1;go_upto_region 3 with fail
   go_cut [3]from 17 to 29 (fun v a=>∃ t:Nat,v= Qd t/\wr.1.size<=t/\a.1[t]?=some (jJ f (some ⟨g6,0,none⟩) c1 b2 c2 b3 c3)/\In E a)
   case first=>
    go_region
    all_goals go_wp2
    all_goals go_meet
    all_goals exact⟨_,rfl,Ql _,Qk wr _,hC.dr (hC.al HR.o _)⟩
   case rest=>
    obtain⟨t,rfl,m8,q3,g1⟩:=hcut;obtain⟨k,z1⟩:∃ k,k=Ad E t (jJ f (some ⟨g6,0,none⟩) c1 b2 c2 b3 c3):=⟨_,rfl⟩;have n:Ck H U L A F ns (Qe gr L.length a4) D (Qe gf F.length u) B V (t+1) k:=by rw[z1];exact hC.ad m8
    have HX:Hid (In k wc):=by unfold Hid In;rw[z1];exact⟨g1,q3⟩
    have k4:∀ W,In k W->In E W/\(W.cell? ⟨t,5,none⟩=some (Qe g6 1 c1)/\W.cell? ⟨t,6,none⟩=some (.slice b2 f.g.length c2)/\W.cell? ⟨t,7,none⟩=some (.slice b3 f.e.length c3)/\W.cell? ⟨t,8,none⟩=some (Qc (Z:Int))):=fun W h=>by
     unfold In at h;rw[z1]at h;obtain⟨_,_,_,_,_,d5,d6,z,d8,_⟩:=aD8 h.2;exact⟨h.1,by rw[d5,d4.o];rfl,d6,z,by rw[d8,HV.o]⟩
    obtain⟨_,d5,d6,z,d8⟩:=k4 wc HX.o;have i7:0<=(Z:Int)/\(Z:Int)<=100000:=Oa
    have m6:∀ w:World,(Instr.makeSlice 228 (Qc (Z:Int)) (Qc (Z:Int))).run prog w= .ok (Qe w.1.size Z Z) (w.alloc (.cells (madeCells #[Qc 0,Qc 0] (Z*2)) 232)):=fun w=>by
     obtain⟨i0,m7,m1,m0,y6⟩:=info_parts infoRg;have:=run_make (P:=prog) (w:=w) 228 232 i0 (.agg #[Qc 0,Qc 0]) underlying228 m7 m1 .i64 .i64 (Z:Int) (Z:Int) Oa (Int.le_refl _) (by rw[y6];omega) Oa;rw[m0]at this;simp only[Int.toNat_natCast]at this;exact this
    clear g1 q3 g0 e0 e1 e2 e3 e4 e5 e6 e7 e8 e9 a6 y0 k9 j4 j9 p3 z1;go_upto_region 5 with fail
    obtain⟨W5,y3⟩:∃ W5,W5=(wc.alloc (.cells (madeCells #[Qc 0,Qc 0] (Z*2)) 232)).alloc (kE false wc.1.size Z):=⟨_,rfl⟩;have X5:In k W5:=by rw[y3];exact n.al (n.al HX.o _) _
    have l:W5.1[wc.1.size+1]?=some (kE false wc.1.size Z):=by
     have:=Qk (wc.alloc (.cells (madeCells #[Qc 0,Qc 0] (Z*2)) 232)) (kE false wc.1.size Z);rw[cP]at this;rw[y3];exact this
    have g3:fG Z false wc.1.size W5:=⟨List.replicate Z (0,0),Od,by rw[y3,<-aSR];exact(On Od).t (Qk wc _),fun _ r hr=>by
     obtain⟨_,rfl⟩:=List.mem_replicate.1 hr;unfold Rk;omega⟩
    have hz:=n.sz _ HX.o;have y2:∀ W j G,In k W->In k (W.setCell ⟨wc.1.size,j,none⟩ G):=fun W j G h=>n.far2 W wc _ j G h HX.o Ol;rw[<-y3];clear y3 d5 d6 z d8 HX m6;generalize wc.1.size=d at*;obtain⟨q,y4⟩:∃ q,q=Ads Z (Ad k (d+1) (kE false d Z)) false d:=⟨_,rfl⟩;have z7:Ck H U L A F ns (Qe gr L.length a4) D (Qe gf F.length u) B V (d+1+1) q:=by rw[y4];exact(n.ad Oa).ads
    have X2:Hid (In q W5):=by unfold Hid In;rw[y4];exact⟨⟨X5,l⟩,g3⟩
    have k0:∀ W,In q W->In k W/\W.1[d+1]?=some (kE false d Z)/\fG Z false d W:=fun W h=>by unfold In at h;rw[y4]at h;exact⟨h.1.1,h.1.2,h.2⟩
    have h8:∀ W j G,In q W->fG Z false d (W.setCell ⟨d,j,none⟩ G)->In q (W.setCell ⟨d,j,none⟩ G):=fun W j G h hs=>by
     have h3:=y2 W j G (k0 W h).1;have h4:=(k0 W h).2.1;unfold In;rw[y4];exact⟨⟨h3,(Om (by show d+1≠d;omega)).t h4⟩,hs⟩
    clear X5 l g3 y4 y2;go_wp2;go_loopg [5] (f.g.length+1) (fun x v5 wr=>∃ v:Nat,v5= Qc (v:Nat)/\v+x=f.g.length+1/\v<=f.g.length/\In q wr)
    case atStart=>exact⟨0,rfl,Od,Od,X2.o⟩
    case round=>
     clear X2;obtain⟨v,rfl,l3,l1,h9⟩:=hrel;have z8:Hid (In q wr):=h9;obtain⟨h1,l,_⟩:=k0 _ h9;obtain⟨_,d5,d6,z,d8⟩:=k4 _ h1;obtain⟨s0,s1,_⟩:=aQ l;have Q4:Hid _:=l;clear h9 h1 l
     by_cases i9:v < f.g.length
     ·have t1:decide ((v:Int) < (f.g.length:Int))=true:=by simp;omega
      obtain⟨m2,rfl⟩:∃ m,gk=m+1:=⟨gk - 1,Oa⟩;have y7:v < Z:=Oa
      have g4:0<=(v:Int)/\(v:Int) < (Z:Int):=Oa
      have m4:IntKind.i64.wrap ((v:Int)+1)=(v:Int)+1:=IntWalk.i64_in _ Oa;go_upto_region 8 with fail
      go_region_with (go_at_call 111;refine(tY _).mono ?_;rintro e W8 ⟨rfl,b9⟩;have S8:Hid (In q W8):=z7.be (z7.dr z8.o) b9;obtain⟨_,q8,y8⟩:=k0 _ S8.o;obtain⟨n0,n1,_⟩:=aQ q8;obtain⟨rn,d7,f2,_⟩:=y8.get y7;have h6:=y8.frz;have d3:Hid (fG Z false d W8):=y8;clear y8 q8)
      all_goals go_wp2
      all_goals go_roundg m2
      all_goals try (case rel=>exact⟨v+1,Od,Oa,Oa,h8 _ _ _ (h8 _ _ _ S8.o (fG.lo d3.o y7)) (fG.hi (fG.lo d3.o y7) y7)⟩)
      all_goals try (case measure=>omega)
     ·have t1:decide ((v:Int) < (f.g.length:Int))=false:=by simp;omega
      have X3:Hid (In k wr/\wr.1[d+1]?=some (kE false d Z)/\fG Z false d wr):=k0 _ z8.o;go_wp2;go_loopg [6] (f.e.length+1) (fun x v6 wr=>∃ (j:Nat) (d':Bool) (g':Nat),v6= Qc (j:Nat)/\j+x=f.e.length+1/\j<=f.e.length/\In k wr/\wr.1[d+1]?=some (kE d' g' Z)/\fG Z d' g' wr)
      case atStart=>exact⟨0,false,d,rfl,Od,Od,X3.o⟩
      case round=>
       clear X3 d5 d6 z d8 s0 s1 Q4 z8;obtain⟨j,d',g',rfl,i4,i3,h9,l,k6⟩:=hrel;obtain⟨g9,d5,d6,z,d8⟩:=k4 _ h9;obtain⟨s0,s1,_⟩:=aQ l;have Q4:Hid _:=l;have z2:Hid (In k wr):=h9;clear h9 l
       by_cases hj:j < f.e.length
       ·have t2:decide ((j:Int) < (f.e.length:Int))=true:=by simp;omega
        obtain⟨m3,rfl⟩:∃ m,gk=m+1:=⟨gk - 1,Oa⟩;have f9:0<=(j:Int)/\(j:Int) < (f.e.length:Int):=Oa
        have m4:IntKind.i64.wrap ((j:Int)+1)=(j:Int)+1:=IntWalk.i64_in _ Oa;obtain⟨c,hc⟩:∃ c,f.e[j]?=some c:=⟨f.e[j],List.getElem?_eq_getElem _⟩;obtain⟨x,y,a8,j8,z0,hy,y6⟩:=d1.o c (Qr hc);obtain⟨gw,rfl,xw⟩:=k5 j c hc;have xw:=xw wr g9;obtain⟨kc,f4,c8,a1,k1,a2,k2,a3,k3,rfl,i5,j1,z5,g0,e0,e1,e2,e3,e4,e5,e6,e7,e8,e9,a6⟩:=(n.fd _ z2.o).p0 j8;simp only[Value.slice.injEq,Option.some.injEq,Addr.mk.injEq]at j1;obtain⟨⟨rfl,-⟩,-,rfl⟩:=j1;obtain⟨g7,c6,z4,xy,j6⟩:=pZ z5 (i:=0) (y:=y) (by rw[z0];rfl);obtain⟨g8,c7,z3,xz,_⟩:=pZ z5 (i:=1) (y:=a8) (by rw[z0];rfl);rw[z4]at z3;simp only[Value.slice.injEq,Option.some.injEq,Addr.mk.injEq]at z4 z3;obtain⟨rfl,-,rfl⟩:=z4;obtain⟨⟨rfl,-⟩,-⟩:=z3;have f7:0<=(kc:Int)/\(kc:Int) < (L.length:Int):=Oa
        have y0:=Qp _ _ g0;have k9:=Qp _ _ e0;have j3:=Qp _ _ xw;have j5:=Qp _ _ z;dsimp only at y0 k9 j3 j5;have d9:Hid (x.c=[y,a8]):=z0;clear z0 z5;go_upto_region 12 with fail
        go_cut [7]from 53 to 63 (fun v a=>∃ b7:Nat,v= Qd b7/\wr.1.size<=b7/\a.1[b7]?=some (jJ x (some ⟨g7,0,none⟩) k1 a2 k2 a3 k3)/\Below wr.1.size wr a)
        case first=>
         go_region
         all_goals go_wp2
         all_goals go_meet
         all_goals exact⟨_,rfl,Ql _,Qk wr _,((Below.refl _ _).alloc Ol _).drew⟩
        case rest=>
         obtain⟨b7,rfl,f6,q7,hB⟩:=hcut;obtain⟨_,_,l2,_,_,l5,_⟩:=aD8 q7;rw[show x.c.length=2 by rw[d9.o];rfl]at l5;have xy:=(hB.cell (p:=⟨g7,0,none⟩) j6).t xy;have xz:=(hB.cell (p:=⟨g7,1,none⟩) j6).t xz;have y9:=(Oo Q4.o);have l:=(hB.block _ y9).t Q4.o;have k6:=k6.below hB;have b5:Hid (In k wc):=n.be z2.o hB;clear s0 s1 q7 hB d5 d6 z d8 g0 e0 e1 e2 e3 e4 e5 e6 e7 e8 e9 a6 y0 k9 j3 j5 xw z2 Q4 y9;obtain⟨s0,s1,_⟩:=aQ l;have y9:=(Oo l);have Q4:Hid _:=l;clear l;have F0:=n.dr b5.o;go_upto_region 13 with fail
         have hh:=aGV g5 hZ hv y a8 x.s d' wc.drew hy y6 (n.fd _ F0) (k6.below (Below.refl _ _).drew);have a9:∀ o,Below wc.drew.1.size wc.drew o->In k o/\o.1[d+1]?=some (kE d' g' Z):=fun o y5=>⟨n.be F0 y5,(y5.block _ y9).t Q4.o⟩;clear k6 F0 k5 k8 k0 h8 k4 d0 j7 hF hO hN hb g5 d1 hy y6 hC z7 d4 HV d9 j8 hc;refine aK4 (S:=fun a=>a=wc.drew) (c:=12) (by kernel_rfl) ?_;refine jG (i:=0) (v:=?tv0) [12,13] rfl (by kernel_rfl) (by kernel_rfl) (by kernel_rfl) (by kernel_rfl) (fun _ _ _ h=>h) (Or.l ⟨by rfl,?ty0⟩) rfl ?tr0
         case ty0=>(intro a h0;subst h0;go_simp;try with_reducible rfl)
         simp only[Act.put,List.setIfInBounds_toArray];refine jG (i:=1) (v:=?tv1) [12,13] rfl (by kernel_rfl) (by kernel_rfl) (by kernel_rfl) (by kernel_rfl) (fun _ _ _ h=>h) (Or.l ⟨by rfl,?ty1⟩) rfl ?tr1
         case ty1=>(intro a h0;subst h0;go_simp;try with_reducible rfl)
         simp only[Act.put];refine jG (i:=2) (v:=?tv2) [3,4,5,12,13] rfl (by kernel_rfl) (by kernel_rfl) (by kernel_rfl) (by kernel_rfl) (fun _ _ _ h=>h) (Or.l ⟨by rfl,?ty2⟩) rfl ?tr2
         case ty2=>(intro a h0;subst h0;go_simp;try with_reducible rfl)
         simp only[Act.put];refine jG (i:=3) (v:=?tv3) [4,5,12,13] rfl (by kernel_rfl) (by kernel_rfl) (by kernel_rfl) (by kernel_rfl) (fun _ _ _ h=>h) (Or.l ⟨by rfl,?ty3⟩) rfl ?tr3
         case ty3=>(intro a h0;subst h0;go_simp;try with_reducible rfl)
         simp only[Act.put];refine jG (i:=4) (v:=?tv4) [5,12,13] rfl (by kernel_rfl) (by kernel_rfl) (by kernel_rfl) (by kernel_rfl) (fun _ _ _ h=>h) (Or.l ⟨by rfl,?ty4⟩) rfl ?tr4
         case ty4=>(intro a h0;subst h0;go_simp;try with_reducible rfl)
         simp only[Act.put];refine jG (i:=5) (v:=?tv5) [12,13] rfl (by kernel_rfl) (by kernel_rfl) (by kernel_rfl) (by kernel_rfl) (fun _ _ _ h=>h) (Or.l ⟨by rfl,?ty5⟩) rfl ?tr5
         case ty5=>(intro a h0;subst h0;go_simp;try with_reducible rfl)
         simp only[Act.put];refine jG (i:=6) (v:=?tv6) [7,12,13] rfl (by kernel_rfl) (by kernel_rfl) (by kernel_rfl) (by kernel_rfl) (fun _ _ _ h=>h) (Or.l ⟨by rfl,?ty6⟩) rfl ?tr6
         case ty6=>(intro a h0;subst h0;go_simp;try with_reducible rfl)
         simp only[Act.put];refine jG (i:=7) (v:=?tv7) [12,13] rfl (by kernel_rfl) (by kernel_rfl) (by kernel_rfl) (by kernel_rfl) (fun _ _ _ h=>h) (Or.l ⟨by rfl,?ty7⟩) rfl ?tr7
         case ty7=>(intro a h0;subst h0;go_simp;try with_reducible rfl)
         simp only[Act.put];refine jG (i:=8) (v:=?tv8) [9,10,11,12,13] rfl (by kernel_rfl) (by kernel_rfl) (by kernel_rfl) (by kernel_rfl) (fun _ _ _ h=>h) (Or.l ⟨by rfl,?ty8⟩) rfl ?tr8
         case ty8=>(intro a h0;subst h0;go_simp;try with_reducible rfl)
         simp only[Act.put];refine jG (i:=9) (v:=?tv9) [10,11,12,13] rfl (by kernel_rfl) (by kernel_rfl) (by kernel_rfl) (by kernel_rfl) (fun _ _ _ h=>h) (Or.l ⟨by rfl,?ty9⟩) rfl ?tr9
         case ty9=>(intro a h0;subst h0;go_simp;try with_reducible rfl)
         simp only[Act.put];refine jG (i:=10) (v:=?tv10) [11,12,13] rfl (by kernel_rfl) (by kernel_rfl) (by kernel_rfl) (by kernel_rfl) (fun _ _ _ h=>h) (Or.l ⟨by rfl,?ty10⟩) rfl ?tr10
         case ty10=>(intro a h0;subst h0;go_simp;try with_reducible rfl)
         simp only[Act.put];refine jG (i:=11) (v:=?tv11) [12,13] rfl (by kernel_rfl) (by kernel_rfl) (by kernel_rfl) (by kernel_rfl) (fun _ _ _ h=>h) (Or.l ⟨by rfl,?ty11⟩) rfl ?tr11
         case ty11=>(intro a h0;subst h0;go_simp;try with_reducible rfl)
         simp only[Act.put];refine aHP (i:=12) rfl (by kernel_rfl) (by kernel_rfl) (fun K hK=>?_);go_simp
         refine hh.mono ?_;rintro e o ⟨d2,g2,rfl,z6,y5⟩;obtain⟨h2,n4⟩:=a9 o y5;obtain⟨u0,u1,uf⟩:=aQ n4;have S3:Hid (In k o):=h2;have N4:Hid (o.1[d+1]?=some (kE d' g' Z)):=n4;have b6:Hid (fG Z d2 g2 o):=z6;clear n4 h2 z6 y5 a9 hh;refine hK.o _ _ ?_
         try simp only[Act.put,List.setIfInBounds_toArray,List.set_cons_zero,List.set_cons_succ]
         refine aHP (i:=13) rfl (by kernel_rfl) (by kernel_rfl) (fun K hK=>?_);go_simp
         refine hK.o _ _ ?_;refine aNV (by kernel_rfl) ?_
         all_goals go_wp2
         all_goals go_roundg m3
         all_goals try (case rel=>exact⟨j+1,d2,g2,Od,Oa,Oa,n.far _ _ _ _ _ _ S3.o Oa N4.o,nV N4.o,b6.o.set2 N4.o _ _⟩)
         all_goals try (case measure=>omega)
       ·have t2:decide ((j:Int) < (f.e.length:Int))=false:=by simp;omega
        have x6:=k8 wr g9;have F0:=n.dr z2.o;go_upto_region 14 with fail
        go_region_with (go_at_call 113;refine((aZQ hN hO hZ b8 m9 hv m5 (b.toNat+1)).1 b d' g' _ (Nat.lt_succ_self _) hb (n.fd _ F0) (k6.below (Below.refl _ _).drew)).mono ?_;rintro e o ⟨d2,g2,rfl,z6,hp⟩;have S2:Hid (In k o):=n.nx _ _ F0 hp)
        all_goals go_wp2
        all_goals go_roundg m
        all_goals try (case rel=>
         have h2:=d0 _ (k4 _ S2.o).1;exact⟨i+1,Od,Oa,Oa,h2.1,HP.o.2.t h2.2⟩)
        all_goals try (case measure=>omega)
  ·have t0:decide ((i:Int) < (F.length:Int))=false:=by simp;omega
   go_wp2;go_end0
   exact⟨rfl,HP.o⟩
end
section
def QgW(U n:Nat)(w:World):Prop:=∃ (gl ll cl gf lf cf m k:Nat) (vI D B:Value) (a:Option Addr) (c:Nat) (xs ys:Array Value),w.1[U]?=some (Qf #[Qe gl ll cl,vI,D,Qe gf lf cf,Qc (m:Int),B] 76)/\m < lf/\k < ll/\w.1[gf]?=some (.cells xs 3 (0,0))/\xs[m]?=some (Qc (k:Int))/\w.1[gl]?=some (.cells ys 73 (0,0))/\ys[k*11+6]?=some (.slice a n c)
theorem QgW.far{U n b:Nat}{cs:Array Value}{W W2:World}(h:QgW U n W)(d:W.1[b]?=some (.cells cs 37 (0,0)))(e:∀ k,k≠b->W2.1[k]?=W.1[k]?):QgW U n W2:=by
 obtain⟨q,y,o,p,x,l,m,k,vI,D,B,a,c,z,G,f,r,t,i,u,j,v⟩:=h;exact⟨q,y,o,p,x,l,m,k,vI,D,B,a,c,z,G,(e _ (bR f d Ob)).t f,r,t,(e _ (bR i d Ob)).t i,u,(e _ (bR j d Ob)).t j,v⟩
theorem QgW.of{H U ns m:Nat}{L:List NQ}{A F:List Int}{Y vI D M B:Value}{V:List V3}{W:World}{x:Int}{n:NQ}(h:qQ H U L A F ns Y D M B V W)(r:W.1[U]?=some (Qf #[Y,vI,D,M,Qc (m:Int),B] 76))(l:F[m]?=some x)(t:jM L x n):QgW U n.g.length W:=by
 obtain⟨d,o,rfl,j⟩:=dQ h.fns l;obtain⟨k,e,p,_,_,a,c,_,_,rfl,q,rfl,_,_,_,_,_,_,_,_,b,_⟩:=h.p0 t;obtain⟨⟨u,f⟩,_⟩:=aW h.fns (k:=d) rfl;obtain⟨⟨v,i⟩,_⟩:=aW h.nodes (k:=e) rfl;rw[cell_of_row _ _ _ _ _ _ f]at j;rw[cell_of_row _ _ _ _ _ _ i]at b;exact⟨e,_,p,d,_,o,m,k,vI,D,B,a,c,u,v,r,(List.getElem?_eq_some_iff.1 l).1,q,f,j,i,b⟩
def aM1(s:ByteArray)(w:World):Ending->World->Prop:=fun e w'=>Below w.1.size w w'/\
 (((fP s).1≠0/\e= .returned (.tuple #[.pointer none,.agg #[Qc (fP s).1,Qc (fP s).2]]))\/
  ((fP s).1=0/\∃ U n,e= .returned (.tuple #[Qd U,.agg #[Qc 0,Qc 0]])/\QgW U n w'/\oM (rZ s) (vQ (rZ s)).toNat=some n))
abbrev f0:Obj:= Qf #[Qc 0,Qc 0] 37
structure Rb(O:Nat)(E:Array Value)(w W:World):Prop where
 b:Below w.1.size w W
 f:W.1[w.1.size]?=some f0
 p:W.1[O]?=some (.cells E 126 (0,0))
section
variable {w W W2:World} {O X U gw cw:Nat} {E:Array Value} {L:List NQ} {I A F:List Int} {m:Int} {s:Ns} {Y vI D M B R K C Z:Value} {V j:List V3} {T:List aU} {st:QS} {ns:Nat}
theorem Rb.step(h:Rb O E w W)(b:W2.os=W.os)(c:W2.tape=W.tape)(d:W2.output=W.output)(i:W.1.size<=W2.1.size)(a:∀ k,k < w.1.size+1->k < W.1.size->W2.1[k]?=W.1[k]?)(f:W2.1[O]?=W.1[O]?):Rb O E w W2:=by
 have e:=(Oo h.f);exact⟨⟨b.t h.b.os,c.t h.b.tape,d.t h.b.output,Qm h.b.size i,fun k h0=>(a k Oa Oa).t (h.b.block k h0)⟩,(a _ Oa e).t h.f,f.t h.p⟩
theorem Rb.lt(h:Rb O E w W):O < W.1.size:=(Oo h.p)
theorem Rb.below(h:Rb O E w W)(a:Below W.1.size W W2):Rb O E w W2:=h.step a.os a.tape a.output a.size (fun k _ b=>a.block k b) (a.block _ h.lt)
theorem Rb.nx(h:Rb O E w W)(a:gZ (w.1.size+1) X U L I A F m s Y vI D M B R V W)(b:Nx X U Y B R K C W W2)(d:w.1.size+1<=X)(f:w.1.size+1<=U):Rb O E w W2:=
 h.step b.os b.tape b.output b.size (fun k i c=>b.keep k c Oa Oa (fun e=>by have:=(aW a.nodes e).2;omega) (fun e=>by have:=(aW a.d e).2;omega) (fun e=>by have:=(aW a.b e).2;omega))
  (b.keep _ h.lt (bR h.p a.nm Ob) (bR h.p a.prog Ob) (cV a.nodes h.p Ob) (cV a.d h.p Ob) (cV a.b h.p Ob))
theorem Rb.fz(h:Rb O E w W)(b:qQ (w.1.size+1) U L A F ns Y D M B V W)(a:Fz Y B W W2):Rb O E w W2:=by
 obtain⟨i,c⟩:=b.d;exact h.step a.os a.tape a.output a.size (fun k f d=>a.keep k d (fun e=>by have:=(aW c e).2;omega) (fun e=>by have:=(aW b.nodes e).2;omega)) (a.keep _ h.lt (cV c h.p Ob) (cV b.nodes h.p Ob))
theorem Rb.fd(h:Rb O E w W)(c:qQ (w.1.size+1) U L A F ns Y D M B V W)(a:Fd B W W2):Rb O E w W2:=by
 obtain⟨i,b⟩:=c.d;exact h.step a.os a.tape a.output a.size (fun k f d=>a.keep k d (fun e=>by have:=(aW b e).2;omega)) (a.keep _ h.lt (cV b h.p Ob))
theorem PW.nm{H:Nat}(h:PW H O U gw cw T st Y vI V W):gZ H W.1.size U st.L st.c [] [] 0 ⟨[],0,0,[]⟩ Y vI (.slice none 0 0) (.slice none 0 0) (.slice none 0 0) (.slice none 0 0) V (W.alloc (Qf #[Qd U,.slice none 0 0,Qc 0,Qc 0] 129)):=by
 have d:∀ k,k < W.1.size->(W.alloc (Qf #[Qd U,.slice none 0 0,Qc 0,Qc 0] 129)).1[k]?=W.1[k]?:=fun k a=>On a;have nil:∀ (e:TypeId) (f:Nat),(W.alloc (Qf #[Qd U,.slice none 0 0,Qc 0,Qc 0] 129)).ownsRow H e f (.slice none 0 0) 0 []:=fun e f=>⟨Od,.l ⟨rfl,rfl⟩⟩
 exact⟨Qk _ _,(d _ (Oo h.prog)).t h.prog,aR h.nodes (fun k a=>d k (fC h.nodes a)),aR h.its (fun k a=>d k (fC h.its a)),nil _ _,nil _ _,nil _ _,nil _ _,h.c.move (fun k i=>by
  obtain⟨⟨c,b⟩,_⟩:=h.c.typ i;rcases b with b|b<;>exact d k (Oo b)),by have:=h.t0;simp;omega⟩
end
theorem aSE{w:World}{b b' n a:Nat}{e:TypeId}{v:Value}{c:List Value}(h:w.ownsRow b e a v n c)(l:b'<=b):w.ownsRow b' e a v n c:=
 ⟨h.1,h.2.imp id (fun⟨g,J,d,f,i,k⟩=>⟨g,J,d,f,Qm l i,k⟩)⟩
theorem gZ.setM{H X U:Nat}{L:List NQ}{I A F:List Int}{m:Int}{s:Ns}{Y vI D M B R:Value}{V:List V3}{w:World}(h:gZ H X U L I A F m s Y vI D M B R V w)(b:Int):
 gZ H X U L I A F b s Y vI D M B R V (w.setCell ⟨U,4,none⟩ (Qc b))/\Nx X U Y B R B R w (w.setCell ⟨U,4,none⟩ (Qc b)):=by
 have off:∀ {k:Nat} {c:Array Value} {t:TypeId},w.1[k]?=some (.cells c t (0,0))->t≠76->(w.setCell ⟨U,4,none⟩ (Qc b)).1[k]?=w.1[k]?:=fun q d=>Om (bR q h.prog d)
 have a:∀ {n i:Nat} {e:TypeId} {v:Value} {l:List Value},w.ownsRow H e i v n l->e≠76->(w.setCell ⟨U,4,none⟩ (Qc b)).ownsRow H e i v n l:=fun f d=>aR f (fun k o=>by
  obtain⟨⟨c,h0⟩,_⟩:=aW f o;exact off h0 d)
 exact⟨⟨(off h.nm Ob).t h.nm,aI _ h.prog,a h.nodes Ob,a h.its Ob,a h.arrs Ob,a h.fns Ob,a h.d Ob,a h.b Ob,h.c.move (fun k r=>by
  obtain⟨⟨c,h0⟩,_⟩:=h.c.typ r;rcases h0 with h0|h0
  ·exact off h0 Ob
  ·exact off h0 Ob),by simp[World.setCell];exact h.size⟩,⟨rfl,rfl,rfl,by simp[World.setCell],fun k _ _ p _ _ _=>Om p,fun k e=> .l e,fun k e=> .l e⟩⟩
theorem gZ.fd{H X U:Nat}{L:List NQ}{I A F:List Int}{m:Int}{s:Ns}{Y vI D M B R:Value}{V:List V3}{w:World}(h:gZ H X U L I A F m s Y vI D M B R V w):SrW H U L A F s.d.length Y D M B V w w:=
 ⟨⟨⟨_,_,h.prog⟩,h.nodes,h.arrs,h.fns,⟨_,h.d⟩,h.c⟩,⟨rfl,rfl,rfl,Ql _,fun _ _ _ _=>rfl⟩,_,rfl,h.d⟩
theorem aA2(s:ByteArray)(w:World){c p:Int}(a:c≠0)(t:oP s=([],c,p))(u:fP s=(c,p)):Calls prog 38 #[.string s] w (aM1 s w):=by
 have P:∀ W,Calls prog 60 #[.string s] W fun e z=>Below W.1.size W z/\e= .returned (.tuple #[.slice none 0 0,.agg #[Qc c,Qc p]]):=fun W=>(aM9 s W).mono (by
  rintro e z ⟨G,v,f,_,q⟩;rw[t]at f q;rw[q a]at f;exact⟨G,f⟩)
 have t0:(c !=0)=true:=by simpa using a
 have b:Hid (fP s=(c,p)/\c≠0):=⟨u,a⟩;clear t u a;have i:=Qk w f0;have l:Below w.1.size w (w.alloc f0):=(Below.refl _ _).alloc Ol _;have k0:=(Oo i);go_enter func38,ntmps38
 go_upto_region 1 with fail
 generalize w.alloc f0=W0 at*;go_upto_region 2 with(go_at_call 60;refine(P _).mono ?_;rintro e d ⟨n,rfl⟩)
 have k:=l.t (n.mono l.size);have h:=(n.block _ k0).t i;have r:=(Oo h);obtain⟨W2,h0⟩:∃ W2,W2=d.alloc (Qf #[Qc c,Qc p] 37):=⟨_,rfl⟩;have x:W2.1[w.1.size]?=some f0:=by rw[h0];exact(On r).t h
 have y:W2.1[d.1.size]?=some (Qf #[Qc c,Qc p] 37):=by rw[h0];exact Qk _ _
 have o:Below w.1.size w W2:=by rw[h0];exact k.alloc k.size _
 have a2:w.1.size≠d.1.size:=Oa
 rw[<-h0];clear h0 i l k0 n k h r;obtain⟨q0,q1,z0⟩:=fE x;obtain⟨p0,p1,z1⟩:=fE y;clear x y;go_upto_region 3 with fail
 go_region
 all_goals go_wp2
 all_goals obtain⟨x0,x1⟩:=iC (w:=W2) (u0:= Qc c) (u1:= Qc p) q0 q1
 all_goals (refine bodyPost_ret (v:= .tuple #[.pointer none,.agg #[Qc c,Qc p]]) (by simp[results,results38,go_sem,x0,x1]) rfl ⟨?_,Or.l ⟨?_,?_⟩⟩)
 all_goals first|(rw[b.o.1];exact b.o.2)|(rw[b.o.1])|exact(Qv (p:=⟨w.1.size,1,none⟩) (Qv (p:=⟨w.1.size,0,none⟩) o Ol _) Ol _).drew|exact Qv (p:=⟨w.1.size,1,none⟩) (Qv (p:=⟨w.1.size,0,none⟩) o.drew Ol _) Ol _
theorem aIF(s:ByteArray)(w:World)(h4:s.size<=4000)(hc:(eI s).a=0):Calls prog 38 #[.string s] w (aM1 s w):=by
 obtain⟨Q,hq,hT,b3,e6⟩:=aKR h4 hc;have e5:0 < Q.length:=by have:=hT.len;have:=hT.some;omega
 have m9:∀ W,Calls prog 60 #[.string s] W fun e w'=>Below W.1.size W w'/\∃ gw cw,e= .returned (.tuple #[Qe gw Q.length cw,.agg #[Qc 0,Qc 0]])/\w'.ownsRow (W.1.size+1) 220 4 (Qe gw Q.length cw) Q.length (dD Q):=fun W=>(aM9 s W).mono (by
  rintro e w' ⟨h1,v,h2,h3,_⟩;rw[hq]at h2 h3;rcases h3.2 with⟨_,h0⟩|⟨g,J,l8,rfl,_⟩
  ·have:Q.length=0:=h0;omega
  ·exact⟨h1,g,J,h2,h3⟩)
 have h8:=aBB hT;have b9:=Qk w f0;have d7:Below w.1.size w (w.alloc f0):=(Below.refl _ _).alloc Ol _;have i4:(w.alloc f0).1.size=w.1.size+1:=cP _ _;go_enter func38,ntmps38
 go_upto_region 1 with fail
 generalize w.alloc f0=W0 at*;go_upto_region 2 with(go_at_call 60;refine(m9 _).mono ?_;rintro e W1 ⟨g2,gw,cw,rfl,y4⟩)
 have d6:=d7.t (g2.mono d7.size);have c6:=(g2.block _ Oa).t b9;have o8:=g2.size;go_upto_region 5 with fail
 obtain⟨W3,b6,j4,-,-,k1,k2⟩:=al3 W1 f0 (Qf #[.slice none 0 0,.slice none 0 0,.slice none 0 0,.slice none 0 0,Qc 0,.slice none 0 0] 76) (Qf #[Qe gw Q.length cw,Qc 0,Qc 0,Qc 0,Qc 0,Qd (W1.1.size+1)] 126);rw[<-b6];have b2:PW (w.1.size+1) (W1.1.size+1+1) (W1.1.size+1) gw cw Q ⟨0,0,0,0,[],[]⟩ (.slice none 0 0) (.slice none 0 0) [] W3:=⟨aR (aSE y4 Oa) (fun a2 t=>j4.block a2 (fC y4 t)),k2,k1,⟨rfl,.l ⟨rfl,rfl⟩⟩,⟨rfl,.l ⟨rfl,rfl⟩⟩,trivial,e5,b3,e6,fun a2 t=>by cases t⟩;have d5:=(j4.block _ Oa).t c6;have z1:=d6.t (j4.mono d6.size);have i5:=j4.size;have j9:w.1.size+1<=W1.1.size+1:=Oa
 clear b6 j4 k1 k2 y4 c6 d6 g2 b9 d7 m9 i4;generalize W1.1.size+1=U at*;have o4:w.1.size+1<=U+1:=Oa
 generalize U+1=O at*;go_upto_region 6 with(go_at_call 61;refine(aOR b2).mono ?_;rintro e W4 ⟨rfl,Y,vI,V,z3,P,-⟩)
 have b8:=(Oo d5);have z2:Rb O _ w W4:=⟨⟨P.os.t z1.os,P.tape.t z1.tape,P.output.t z1.output,Qm z1.size P.size,fun a2 t=>(P.keep a2 Oa Oa Oa (by simp[Value.ownBlock])).t (z1.block a2 t)⟩,(P.keep _ b8 Oa Oa (by simp[Value.ownBlock])).t d5,z3.par⟩;obtain⟨c0,c1,c2,c3,c4,c5,_⟩:=z3.cells;clear b2 d5 z1 i5 b8 P
 by_cases y8:(aK (cE s)).1.a=0
 case neg=>
  have g9:(dY Q).a≠0:=by rw[h8.1];exact y8
  have z:Hid (fP s=((dY Q).a,(dY Q).e)/\(dY Q).a≠0):=⟨by unfold fP;rw[Oh,Oh,if_pos y8,h8.1,h8.2.1 y8],g9⟩;have t0:((dY Q).a !=0)=true:=by simpa using g9
  have hB:=z2.b;obtain⟨q0,q1,z0⟩:=fE z2.f;clear g9 y8 h8 z3 z2;go_upto_region 7 with fail
  go_region
  all_goals go_wp2
  all_goals obtain⟨x0,x1⟩:=iC (w:=W4) (u0:= Qc (dY Q).a) (u1:= Qc (dY Q).e) q0 q1
  all_goals (refine bodyPost_ret (v:= .tuple #[.pointer none,.agg #[Qc (dY Q).a,Qc (dY Q).e]]) (by simp[results,results38,go_sem,x0,x1]) rfl ⟨?_,Or.l ⟨?_,?_⟩⟩)
  all_goals first|(rw[z.o.1];exact z.o.2)|(rw[z.o.1])|exact(Qv (p:=⟨w.1.size,1,none⟩) (Qv (p:=⟨w.1.size,0,none⟩) hB Ol _) Ol _).drew|exact Qv (p:=⟨w.1.size,1,none⟩) (Qv (p:=⟨w.1.size,0,none⟩) hB.drew Ol _) Ol _
 case pos=>
  have t0:((dY Q).a !=0)=false:=by rw[h8.1,y8];rfl
  obtain⟨A,F,S,FQ,N,y,c⟩:=aKS h4 hc y8 hT;obtain⟨n5,n4,d0⟩:=aOO b3 z3.lt;have m2:=z3.nm;have g0:=z2.below ((Below.refl _ _).alloc Ol (Qf #[Qd U,.slice none 0 0,Qc 0,Qc 0] 129));have f5:=(Oo z2.f);clear z3 z2 h8;go_upto_region 9 with fail
  obtain⟨E,g0,z6⟩:∃ E,Rb O E w (W4.alloc (Qf #[Qd U,.slice none 0 0,Qc 0,Qc 0] 129))/\E[5]?=some (Qd U):=⟨_,g0,rfl⟩;have y9:∀ W,Rb O E w W->W.cell? ⟨O,5,none⟩=some (Qd U):=fun W h=>Og h.p z6
  generalize W4.alloc (Qf #[Qd U,.slice none 0 0,Qc 0,Qc 0] 129)=W5 at*;have j7:w.1.size+1<=W4.1.size:=f5;generalize W4.1.size=X at*;clear z6 c0 c1 c2 c3 c4 c5 t0;go_upto_region 10 with(go_at_call 62;refine(aVV c.itn Oa Oa m2).mono ?_;rintro e W6 ⟨rfl,D,M,g1,m8⟩)
  rw[c.a,c.f]at g1;have b4:=g0.nx m2 m8 j7 j9;have h6:=c.same;have i1:=aFQ (dY Q).c N [] ⟨[],[],⟨[],0,0,[]⟩⟩;generalize (pR (dY Q).c N [] ⟨[],[],⟨[],0,0,[]⟩⟩).s=s0 at*;obtain⟨l,n,rfl,_⟩:=bP g1.fns
  have e9:∀ L s B R m W,gZ (w.1.size+1) X U L (dY Q).c A F m s Y vI D (.slice l F.length n) B R V W->W.cell? ⟨U,3,none⟩=some (.slice l F.length n):=fun L s B R m W h=>by
   rw[cell_of_row _ _ _ _ _ _ h.prog];rfl
  have n8:=c.few;have z9:vW (dY Q).L (dY Q).L:=⟨rfl,fun i a h=>⟨a,h,pW.refl a⟩⟩;have a6:Hid _:=g1;have a7:Hid _:=b4;clear m2 g0 m8 g1 b4;go_upto_region 11 with fail
  go_loopg [8] (F.length+1) (fun i7 v8 wr=>∃ (i:Nat) (k:List NQ) (b:Ns) (B R:Value) (lo:Int),v8= Qc (i:Nat)/\i+i7=F.length+1/\i<=F.length/\gZ (w.1.size+1) X U k (dY Q).c A F 0 b Y vI D (.slice l F.length n) B R V wr/\Rb O E w wr/\vW (dY Q).L k/\0<=lo/\(b.d.length:Int)<=lo/\lo<=50000/\aHF (dY Q).L S FQ (F.drop i) (y.drop i) lo/\aRP (y.drop i) b=aRP y s0/\∀ x∈F.take i,∃ hi,hi<=lo/\aE6 (dY Q).L A F hi b.a k x)
  case atStart=>exact⟨0,_,_,_,_,0,rfl,Od,Od,a6.o,a7.o,z9,Oa,by rw[i1];simp,Oa,c.fnp,rfl,fun x q=>by simp at q⟩
  case round=>
   clear a6 a7;obtain⟨i,k,b,B,R,lo,rfl,f4,f2,j1,d8,y6,o2,o5,n9,y0,k8,h7⟩:=hrel;have c5:=y9 _ d8;have g3:=e9 _ _ _ _ _ _ j1;have m3:Hid (Rb O E w wr):=d8;have g4:Hid (gZ (w.1.size+1) X U k (dY Q).c A F 0 b Y vI D (.slice l F.length n) B R V wr):=j1;clear d8
   by_cases hi:i < F.length
   ·have t0:decide ((i:Int) < (F.length:Int))=true:=by simp;omega
    obtain⟨m,rfl⟩:=Oj gk;have n6:0<=(i:Int)/\(i:Int) < (F.length:Int):=Oa
    have o6:IntKind.i64.wrap ((i:Int)+1)=(i:Int)+1:=IntWalk.i64_in _ Oa;obtain⟨x,q⟩:∃ x,F[i]?=some x:=⟨F[i],List.getElem?_eq_getElem _⟩;rw[pU q]at y0;rcases y7:y.drop i with _|⟨a5,Gr⟩
    ·rw[y7]at y0;exact y0.elim
    rw[y7]at y0 k8;obtain⟨⟨i6,o1,hG⟩,z4⟩:=y0
    have a9:y.drop (i+1)=Gr:=by
     have:=congrArg (List.drop 1) y7;simpa[List.drop_drop,Nat.add_comm]using this
    obtain⟨gf,l7,c9,n7⟩:=dQ j1.fns q;simp only[Value.slice.injEq]at c9;obtain⟨rfl,-,rfl⟩:=c9
    have o7:x < (dY Q).L.length:=by
     obtain⟨l2,_,_,_,_,h1,_⟩:=hG;exact h1.lt
    have HG:Hid _:=y7;clear j1 y7;go_wp2_with (go_at_call 63;refine(aW1 c.itq c.fnq c.ia c.if_ Oa Oa Oa (lo:=i6) Oa hG y6 Oa g4.o).mono ?_;rintro e W7 ⟨rfl,k0,k1,k2,L2,i8,i9,k3,k4,k5,k6⟩)
    go_roundg m
    case rel=>
     refine⟨i+1,L2,a5 b,i8,i9,x+1,Od,Oa,Oa,k3,m3.o.nx g4.o k4 j7 j9,y6.upd k5,Oa,k1,Oa,by rw[a9];exact z4,by rw[a9];exact k8,fun l1 G=>?_⟩;rw[List.take_add_one,q]at G;rcases List.mem_append.1 G with G|G
     ·obtain⟨hi,h1,h2⟩:=h7 l1 G;exact⟨hi,Oa,h2.keep k5 Oa k2⟩
     ·simp only[Option.toList_some,List.mem_singleton]at G;subst G;exact⟨_,Int.le_refl _,k6⟩
    case measure=>omega
   ·obtain rfl:i=F.length:=Oa
    have t0:decide ((F.length:Int) < (F.length:Int))=false:=Od
    rw[List.drop_length]at y0
    have a8:y.drop F.length=[]:=by
     cases y7:y.drop F.length with
     |nil=>rfl
     |cons a5 Gr=>rw[y7]at y0;exact y0.elim
    rw[a8]at k8;rw[List.take_length]at h7;have h6:=h6 b k8;clear y0 a8 k8 hi f4 f2;go_upto_region 14 with fail
    obtain⟨d,j8⟩:∃ d,d=dA gJ 2 S 0:=⟨_,rfl⟩
    have b7:∀ W,gZ (w.1.size+1) X U k (dY Q).c A F 0 b Y vI D (.slice l F.length n) B R V W->Calls prog 64 #[Qd X,.string ⟨#[109,97,105,110]⟩,Qc 2] W fun e w'=>e= .returned (Qc d)/\Below W.1.size W w':=fun W h=>by
     rw[j8];exact aL6 gJ 2 (c.itq.like y6) Oa (by rw[y6.len];omega) h
    have k9:=c.main;have f8:=c.if_ gJ;rw[<-j8]at f8;rw[<-j8]at h6 k9;clear j8 j1;go_cut []from 67 to 74 (fun w'=>gZ (w.1.size+1) X U k (dY Q).c A F d b Y vI D (.slice l F.length n) B R V w'/\Rb O E w w')
    case first=>
     have Nd:Hid (gZ (w.1.size+1) X U k (dY Q).c A F 0 b Y vI D (.slice l F.length n) B R V wr.drew):=g4.o.same (w':=wr.drew) (fun _ _=>rfl) Ol;have d2:=b7 _ Nd.o
     have e3:∀ r,Below wr.drew.1.size wr.drew r->(gZ (w.1.size+1) X U k (dY Q).c A F 0 b Y vI D (.slice l F.length n) B R V r/\Rb O E w r)/\r.cell? ⟨U,4,none⟩=some (Qc 0)/\∀ o,r.frozen? ⟨U,o,none⟩=false:=fun r j3=>by
      have N8:=Nd.o.same j3.block j3.size;exact⟨⟨N8,(m3.o.below (Below.refl _ _).drew).below j3⟩,Og N8.prog rfl,fun o=>by simp[World.frozen?,N8.prog]⟩
     go_region_with (go_at_call 64;refine d2.mono ?_;rintro e r ⟨rfl,j3⟩;obtain⟨m0,n1,l9⟩:=e3 r j3;have l4:=y9 _ m0.2;have g5:Hid _:=m0;clear m0)
     all_goals go_wp2
     all_goals go_meet
     all_goals exact⟨(g5.o.1.setM d).1,g5.o.2.nx g5.o.1 (g5.o.1.setM d).2 j7 j9⟩
    case rest=>
     obtain⟨m1,d9⟩:=hcut;have g6:Hid _:=m1;have m4:Hid _:=d9;have a4:=y9 _ d9;have e4:wc.cell? ⟨U,4,none⟩=some (Qc d):=Og m1.prog rfl
     have cP:0<=(s.size:Int)/\(s.size:Int)<=4000:=Oa
     clear m1 d9 c5 g3 b7 g4 m3;go_upto_if 82 with fail
     go_cut []from 75 to 86 (fun w'=>gZ (w.1.size+1) X U k (dY Q).c A F d (if d < 0 then b.e0 4 s.size else b) Y vI D (.slice l F.length n) B R V w'/\Rb O E w w')
     case first=>
      by_cases hm:d < 0
      ·have t1:decide (d < 0)=true:=by simpa using hm
       have HM:Hid (d < 0):=hm;go_wp2_with (go_at_call 65;refine(jW 4 s.size g6.o).mono ?_;rintro e l3 ⟨rfl,h1,h2⟩)
       go_meet;rw[if_pos HM.o];exact⟨h1,m4.o.nx g6.o h2 j7 j9⟩
      ·have t1:decide (d < 0)=false:=by simpa using hm
       have HM:Hid (¬d < 0):=hm;go_wp2;go_meet;rw[if_neg (Oi HM.o)];exact⟨g6.o,m4.o⟩
     case rest=>
      obtain⟨k7,h9⟩:=hcut;clear g6 m4 a4 e4;have a4:=y9 _ h9;obtain⟨⟨_,_,n2,n3,_⟩,_⟩:=k7.cells
      have z5:fP s=((fZ (rZ s) s.size).a,(fZ (rZ s) s.size).e):=by
       unfold fP;rw[Oh,Oh,Oh]
      rcases h6 with⟨c7,g8⟩|⟨j6,g7,c8⟩
      case inr=>
       rw[g7,c8]at z5;rw[g7]at j6;generalize (if d < 0 then b.e0 4 s.size else b)=u at*;have t1:(u.a !=0)=true:=by simpa using j6
       have z:Hid (fP s=(u.a,u.e)/\u.a≠0):=⟨z5,j6⟩;have hB:=h9.b;obtain⟨q0,q1,z0⟩:=fE h9.f;clear z5 j6 g7 c8 k7 h9;go_upto_region 18 with fail
       go_region
       all_goals go_wp2
       all_goals obtain⟨x0,x1⟩:=iC (w:=wc) (u0:= Qc u.a) (u1:= Qc u.e) q0 q1
       all_goals (refine bodyPost_ret (v:= .tuple #[.pointer none,.agg #[Qc u.a,Qc u.e]]) (by simp[results,results38,go_sem,x0,x1]) rfl ⟨?_,Or.l ⟨?_,?_⟩⟩)
       all_goals first|(rw[z.o.1];exact z.o.2)|(rw[z.o.1])|exact(Qv (p:=⟨w.1.size,1,none⟩) (Qv (p:=⟨w.1.size,0,none⟩) hB Ol _) Ol _).drew|exact Qv (p:=⟨w.1.size,1,none⟩) (Qv (p:=⟨w.1.size,0,none⟩) hB.drew Ol _) Ol _
      case inl=>
       obtain⟨f7,z7⟩:=k9 c7;rw[Oh]at g8 k7 n2 n3;have t1:(b.a !=0)=false:=by rw[g8];rfl
       have d4:=k7.fd;have m6:Hid _:=h9;have f:Hid _:=k7;clear k7 h9;go_upto_region 20 with(go_at_call 66;refine(aR3 (by rw[y6.len];omega) Oa _ d4).mono ?_;rintro e e2 ⟨rfl,L1,hS,b5⟩)
       have d1:=aYD y6 b5 d0;rw[g8]at h7;have f6:L1.length<=100000:=by rw[b5.len,y6.len];omega
       have y5:=m6.o.fz d4.fd hS.fz;have l5:=y9 _ y5
       have j0:=aYN (bA3 d1 c.arr (fun x q=>(h7 x q).imp fun _ h=>h.2)) f6 Oa Oa Oa (fun x q=>by
        obtain⟨_,_,h⟩:=h7 x q;exact h.ok d1) e2 hS.fd
       have j5:Hid _:=hS;have m5:Hid _:=y5;clear hS y5 d4 a4;go_upto_region 21 with(go_at_call 67;refine j0.mono ?_;rintro e a3 ⟨rfl,j2,y3⟩)
       have y1:=m5.o.fd j5.o.fd y3;have l6:=y9 _ y1;obtain⟨q0,q1,z0⟩:=fE y1.f;obtain⟨mn,f9⟩:=Int.eq_ofNat_of_zero_le f7;subst f9;have o3:mn < F.length:=Oa
       obtain⟨xm,m7⟩:∃ x,F[mn]?=some x:=⟨F[mn],List.getElem?_eq_getElem _⟩;obtain⟨nm,h5,e8⟩:=c.fnq.at_ mn xm m7;obtain⟨bm,sm,_,i2,e7,_⟩:=d1 xm nm h5;obtain⟨xs,i3⟩:=j5.o.fd.d;have d3:=(Oo f.o.prog);have z8:=(y3.keep U (Nat.lt_of_lt_of_le d3 j5.o.fz.size) (cV i3 ((j5.o.fz.keep U d3 (cV f.o.d f.o.prog Ob) (cV f.o.nodes f.o.prog Ob)).t f.o.prog) Ob)).t ((j5.o.fz.keep U d3 (cV f.o.d f.o.prog Ob) (cV f.o.nodes f.o.prog Ob)).t f.o.prog);have hq:=QgW.of j2 z8 m7 e7
       have HF:Hid (fP s=(0,(fZ (rZ s) s.size).e)/\QgW U bm.g.length a3/\oM (rZ s) (vQ (rZ s)).toNat=some bm.g.length/\Rb O E w a3):=by
        refine⟨by rw[z5,c7],hq,?_,y1⟩;rw[z7,List.getD_eq_getElem?_getD,Int.toNat_natCast,e8,i2.g];rfl
       clear hq z5 y1 z7 j2 y3 z8 k9 h6;obtain⟨x0,x1⟩:=iC (w:=a3) (u0:= Qc 0) (u1:= Qc 0) q0 q1;go_wp2;refine bodyPost_ret (v:= .tuple #[Qd U,.agg #[Qc 0,Qc 0]]) (by simp[results,results38,go_sem,x0,x1]) rfl ⟨Qv (p:=⟨w.1.size,1,none⟩) (Qv (p:=⟨w.1.size,0,none⟩) HF.o.2.2.2.b Ol _) Ol _,Or.r ⟨by rw[HF.o.1],U,_,rfl,HF.o.2.1.far HF.o.2.2.2.f (fun a2 t=>(Om t).t (Om t)),HF.o.2.2.1⟩⟩
theorem aFB(s:ByteArray)(w:World):Calls prog 38 #[.string s] w (aM1 s w):=by
 by_cases b:4000 < s.size
 ·exact aA2 s w (c:=1) (p:=0) Ob (by unfold oP;rw[if_pos b]) (by unfold fP;rw[if_pos b])
 ·by_cases a:(eI s).a=0
  ·exact aIF s w Oa a
  ·exact aA2 s w a ((aEN s Oa).1 a) (by unfold fP;rw[if_neg b,if_pos a])
end
section
theorem PgW.stay{a:Nat}{s:ByteArray}{w w':World}(h:PgW a s w)(b:Below w.1.size w w'):PgW a s w':=h.b (fun k c=>b.block k c)
def aM4(s:ByteArray)(w:World):Ending->World->Prop:=fun e w'=>∃ v,e= .returned (.tuple #[v,.bool true])/\Below w.1.size w w'/\((fP s).1=0/\(∃ b,v= Qd b)\/(fP s).1≠0/\v= .pointer none)
theorem QgW.cells{U n:Nat}{w:World}(h:QgW U n w):∃ (d f l b e i m k:Nat) (a:Option Addr) (c:Nat),w.cell? ⟨U,0,none⟩=some (Qe d f l)/\w.cell? ⟨U,3,none⟩=some (Qe b e i)/\w.cell? ⟨U,4,none⟩=some (Qc (m:Int))/\m < e/\k < f/\w.cell? ⟨b,m,none⟩=some (Qc (k:Int))/\w.cell? ⟨d,k*11+6,none⟩=some (.slice a n c):=by
 obtain⟨d,f,l,b,e,i,m,k,vI,D,B,a,c,x,y,o,p,q,r,t,u,v⟩:=h;exact⟨d,f,l,b,e,i,m,k,a,c,Og o rfl,Og o rfl,Og o rfl,p,q,Og r t,Og u v⟩
theorem QgW.stay{U n:Nat}{W W2:World}(h:QgW U n W)(y:Below W.1.size W W2):QgW U n W2:=by
 obtain⟨l,G,f,i,z,d,m,k,vI,D,B,a,c,P,ys,p,q,r,t,u,v,x⟩:=h;have b:∀ {k:Nat} {o:Obj},W.1[k]?=some o->W2.1[k]?=some o:=fun e=>(y.block _ (Oo e)).t e;exact⟨l,G,f,i,z,d,m,k,vI,D,B,a,c,P,ys,b p,q,r,b t,u,b v,x⟩
theorem aRZ(s:ByteArray)(w:World)(ht:Tab w)(hm:s.size<=maxLen)(k:(fP s).1≠0):Calls prog 15 #[.string s] w (aM4 s w):=by
 have h1:Calls prog 19 #[.string s] w fun e d=>Below w.1.size w d/\e= .returned (.tuple #[.pointer none,.agg #[Qc (fP s).1,Qc (fP s).2]]):=(aJP s w ht hm).mono (by
  rintro e d ⟨o,⟨_,q⟩|⟨h0,_⟩⟩
  ·exact⟨o,q⟩
  ·exact absurd h0 k)
 have h2:∀ W,Calls prog 38 #[.string s] W fun e d=>Below W.1.size W d/\e= .returned (.tuple #[.pointer none,.agg #[Qc (fP s).1,Qc (fP s).2]]):=fun W=>(aFB s W).mono (by
  rintro e d ⟨o,⟨_,q⟩|⟨h0,_⟩⟩
  ·exact⟨o,q⟩
  ·exact absurd h0 k)
 have P:Hid ((fP s).1≠0):=k;clear k;generalize u:(fP s).1=c at*;generalize (fP s).2=p at*;have G:Hid _:=u;clear u;go_enter func15,ntmps15
 go_upto_region 2 with(go_at_call 19;refine h1.mono ?_;rintro e l ⟨n,rfl⟩)
 obtain⟨W2,h⟩:∃ W2,W2=l.alloc (Qf #[Qc c,Qc p] 37):=⟨_,rfl⟩;have r:W2.1[l.1.size]?=some (Qf #[Qc c,Qc p] 37):=by rw[h];exact Qk _ _
 have f:Below w.1.size w W2:=by rw[h];exact n.alloc n.size _
 rw[<-h];clear h n;go_upto_region 3 with(go_at_call 38;refine(h2 _).mono ?_;rintro e t ⟨i,rfl⟩)
 obtain⟨a,b⟩:∃ a,a=t.alloc (Qf #[Qc c,Qc p] 37):=⟨_,rfl⟩;have y:a.1[t.1.size]?=some (Qf #[Qc c,Qc p] 37):=by rw[b];exact Qk _ _
 have x:=(Oo r);have z:a.1[l.1.size]?=some (Qf #[Qc c,Qc p] 37):=by rw[b];exact(eP i x).t r
 have b4:Below w.1.size w a:=by rw[b];exact(f.t (i.mono f.size)).alloc (Qm f.size i.size) _
 rw[<-b];clear b i r f x;obtain⟨p0,p1,_⟩:=fE y;obtain⟨q0,q1,_⟩:=fE z;clear y z;go_wp2;refine bodyPost_ret (v:= .tuple #[.pointer none,.bool true]) (by simp[results,results15,go_sem]) rfl ?_;exact⟨_,rfl,b4,.r ⟨by rw[G.o];exact P.o,rfl⟩⟩
theorem aOM(s:ByteArray)(w:World)(ht:Tab w)(hm:s.size<=maxLen)(b:(fP s).1=0):Calls prog 15 #[.string s] w (aM4 s w):=by
 have h1:Calls prog 19 #[.string s] w fun e f=>Below w.1.size w f/\∃ i,e= .returned (.tuple #[Qd i,.agg #[Qc 0,Qc 0]])/\PgW i s f:=(aJP s w ht hm).mono (by
  rintro e f ⟨x,⟨y,_⟩|⟨_,h⟩⟩
  ·exact absurd b y
  ·exact⟨x,h⟩)
 have h2:∀ W,Calls prog 38 #[.string s] W fun e f=>Below W.1.size W f/\∃ U n,e= .returned (.tuple #[Qd U,.agg #[Qc 0,Qc 0]])/\QgW U n f/\oM (rZ s) (vQ (rZ s)).toNat=some n:=fun W=>(aFB s W).mono (by
  rintro e f ⟨x,⟨y,_⟩|⟨_,h⟩⟩
  ·exact absurd b y
  ·exact⟨x,h⟩)
 have k0:Ws 8 (rZ s)/\(fZ (rZ s) s.size).a=0:=by
  unfold fP at b
  by_cases h4:4000 < s.size
  ·rw[if_pos h4]at b;cases b
  rw[if_neg h4]at b
  by_cases r:(eI s).a≠0
  ·rw[if_pos r]at b;exact absurd b r
  rw[if_neg r]at b
  by_cases t:(aK (cE s)).1.a≠0
  ·rw[if_pos t]at b;exact absurd b t
  rw[if_neg t]at b;exact⟨(rI (uD Oa Oa) (qS s) (by simp[cE]) Oa).1,b⟩
 have HR:Hid ((fP s).1=0):=b;have P:Hid _:=k0;clear b k0;go_enter func15,ntmps15
 go_upto_region 2 with(go_at_call 19;refine h1.mono ?_;rintro e q ⟨u,i,rfl,hP⟩)
 obtain⟨W2,k⟩:∃ W2,W2=q.alloc f0:=⟨_,rfl⟩;have z:W2.1[q.1.size]?=some f0:=by rw[k];exact Qk _ _
 have o:Below w.1.size w W2:=by rw[k];exact u.alloc u.size _
 have k9:PgW i s W2:=by rw[k];exact hP.stay ((Below.refl _ _).alloc Ol _)
 rw[<-k];clear k u hP;go_upto_region 3 with(go_at_call 38;refine(h2 _).mono ?_;rintro e W3 ⟨l,U,n,rfl,hQ,h3⟩)
 obtain⟨d,h0⟩:∃ d,d=W3.alloc f0:=⟨_,rfl⟩;have k3:d.1[W3.1.size]?=some f0:=by rw[h0];exact Qk _ _
 have hl:=(Oo z);have k4:d.1[q.1.size]?=some f0:=by rw[h0];exact(eP l hl).t z
 have b4:Below w.1.size w d:=by rw[h0];exact(o.t (l.mono o.size)).alloc (Qm o.size l.size) _
 have k8:PgW i s d:=by rw[h0];exact(k9.stay l).stay ((Below.refl _ _).alloc Ol _)
 have k7:QgW U n d:=by rw[h0];exact hQ.stay ((Below.refl _ _).alloc Ol _)
 rw[<-h0];clear h0 l z o hl k9 hQ;obtain⟨p0,p1,_⟩:=fE k3;obtain⟨q0,q1,_⟩:=fE k4;clear k3 k4;obtain⟨n',k5,k1⟩:=aQ5 k8 P.o.2 P.o.1;rw[h3]at k5;cases k5;clear h3 k8;have HQ:Hid (QgW U n d):=k7;clear k7;go_upto_region 8 with(go_at_call 31;refine k1.mono ?_;rintro e W5 ⟨rfl,G,rfl⟩)
 have p:=iJ b4 G;have k6:=QgW.stay HQ.o (iJ (Below.refl _ d) G);generalize d.drewN G=W5 at*;obtain⟨gl,ll,cl,gf,lf,cf,m,a2,a,c,x0,x3,x4,a6,a5,xf,xl⟩:=k6.cells;have a4:0<=(m:Int)/\(m:Int) < (lf:Int):=Oa
 have a3:0<=(a2:Int)/\(a2:Int) < (ll:Int):=Oa
 clear k6 p0 p1 q0 q1 b4 k1;go_quiet (fail)
 go_wp2;refine bodyPost_ret (v:= .tuple #[_,.bool true]) (by simp[results,results15,go_sem];rfl) rfl ?_;exact⟨_,rfl,by first|exact(iJ p _).alloc p.size _|exact p.alloc p.size _,.l ⟨HR.o,_,rfl⟩⟩
theorem aCX(s:ByteArray)(w:World)(c:Tab w)(a:s.size<=maxLen):Calls prog 15 #[.string s] w (aM4 s w):=by
 by_cases b:(fP s).1=0
 ·exact aOM s w c a b
 ·exact aRZ s w c a b
end
end Go.Proofs.YtikffmloeifkpaaGreatDoor
