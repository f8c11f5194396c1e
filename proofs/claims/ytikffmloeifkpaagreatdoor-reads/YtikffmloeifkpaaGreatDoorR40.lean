/- Contracts. -/
import Derived.Test.YtikffmloeifkpaaGreatDoorR37
import Derived.Test.YtikffmloeifkpaaGreatDoorR39
import Derived.Test.YtikffmloeifkpaaGreatDoorR34
import Derived.Test.YtikffmloeifkpaaGreatDoorR22
import Derived.Test.YtikffmloeifkpaaGreatDoorR19
set_option maxHeartbeats 16000000
set_option maxRecDepth 100000
namespace Go.Proofs.YtikffmloeifkpaaGreatDoor
open Go.RowKit Go.Lib Go.Deep Go.ChangeMaps Go.MapKept Tryz
section
variable {H X U:Nat} {J L:List NQ} {I A F:List Int} {m:Int} {s:Ns} {Y vI D M B E:Value} {V:List V3} {S:List (ByteArray × Int)} {FQ:List (Nat × Nat)} {w:World}
theorem bSI:∀ (ps:List Tok) (i:Nat) (s:Ns),(bRU ps i s).a=0->s.a=0
 |[],_,_,h=>h
 |p::r,i,s,h=>by
  rw[bPH]at h;have a:(bPI p i s).a=0:=bSI r (i+1) {bPI p i s with b:=(bPI p i s).b++[p.f]} h;unfold bPI at a
  grind [Ns.E]
theorem bTA:∀ {c:List Int} {b:List (Int × (Ns->Ns))} {lo hi:Int} {K:Int->Prop},bP9 H X U I A F m Y vI D M V J c b lo hi K->(∀ (i:Nat) (s:Ns),(whQ b i s).a=0->s.a=0)/\∀ j,K j->lo<=j/\j < hi
 |[],_,lo,hi,K,⟨h,_,h2⟩=>⟨fun i s e=>by subst h;exact e,fun j a=>absurd a (h2 j)⟩
 |y::c,_,lo,hi,K,⟨n,g,r,k,K1,K2,h,_,h1,h2,h3,_,h4⟩=>by
  obtain⟨d,f⟩:=bTA h2;have l:=h2.le;refine⟨fun i s e=>?_,fun j a=>?_⟩
  ·subst h;have e:(whQ r (i+1) (g (if 4<=i then s.E 5 n.at_ else s))).a=0:=e;have e:=h1.1.1.a _ (d _ _ e)
   grind [Ns.E]
  ·rcases h4 j a with e|e
   ·have:=h1.1.2 j e;omega
   ·have:=f j e;omega
section
variable (R:bQQ J I S) (hF:bQ8 J F FQ) (O:∀ x,bL8 x 1 S 0 < A.length) (N:∀ x,bL8 x 2 S 0 < F.length) (Q:I.length<=100000) (T:F.length<=100000) (P:J.length<=100000)
include R hF O N Q T P
theorem bZE{lo k:Int}{G:Ns->Ns}(z:0<=lo)(hG:FnP J S FQ lo k G)(hL:bOY J L)(hs:(s.d.length:Int)<=lo)(h:NmW H X U L I A F m s Y vI D M B E V w):
 Calls prog 63 #[Qd X,Qc k] w fun e j=>e= .returned (.tuple #[])/\lo<=k/\((G s).d.length:Int)<=k+1/\((G s).a=0->s.a=0)/\∃ a d f,NmW H X U a I A F m (G s) Y vI D M d f V j/\Nx X U Y B E d f w j/\Upd lo (k+1) L a/\bRT J A F (k+1) (G s).a a k:=by
 obtain⟨C,ws,bd,r,y,g,h1,K,n,W,Z,rfl,h6,h7,o,p⟩:=hG;obtain⟨k,rfl⟩:=Int.eq_ofNat_of_zero_le g.1;have q:J[k]?=some C:=by have:=g.2;simpa using this
 have a2:=(List.getElem?_eq_some_iff.1 q).1;obtain⟨v,t,w2,w3⟩:=bWX (X:=X) (U:=U) (m:=m) (Y:=Y) (vI:=vI) (D:=D) (M:=M) (V:=V) (H:=H) R hF O N Q T P ws _ lo r h6 z K;obtain⟨u,c,x,l⟩:=bYH (X:=X) (U:=U) (m:=m) (Y:=Y) (vI:=vI) (D:=D) (M:=M) (V:=V) (H:=H) R hF O N Q T P h7 Oa W Z;obtain⟨wc,wr⟩:=bTA t
 have k1:r<=k:=by
  have:=(c.1.2 y l.1).1;omega
 refine(cB3 P q o p n k1 t c hL Oa h).mono ?_;rintro e j ⟨rfl,q1,q2,a,d,f,q3,q4,q5,⟨b,q6,q7⟩,q8,q9,a1⟩;refine⟨rfl,Oa,Oa,fun e=>?_,a,d,f,q3,q4,q5,fun e=>?_⟩
 ·have e:=bSI _ _ _ (wc _ _ (c.1.1.a _ e));exact e
 ·refine⟨C,b,y,v,u,_,g,⟨Oa,by simpa using q6⟩,q7,q8,q1,p,o,n,l,w3,w2,x,fun i hi=>⟨?_,q9 e i hi⟩,fun i hi=>⟨?_,a1 e i hi⟩,Oa⟩
  ·have:=wr i hi;omega
  ·have:=(c.1.2 i hi).2;omega
end
end
section
variable {H U:Nat} {L C:List NQ} {A F:List Int} {ns Z g:Nat} {Y D M B:Value} {V:List V3} {K:Int->Prop}
theorem Bw.ck{w:World}(a:FdW H U L A F ns Y D M B V w):Ck H U L A F ns Y D M B V w.1.size (Bw H U L A F ns Y D M B V w) where
 fd _W h:=Bw.fd h
 nx _W _W2 h hp:=Bw.b h hp
 far _W _b _x _y _u _v h hb _q:=Bw.set (Bw.set h hb _ _) hb _ _
 far2 _W _W1 _b _j _u h hX hb:=Bw.set h (Qm (Bw.fr hX).size hb) _ _
 sz _W h:=(Bw.fr h).size
 vs k e:=(Bw.start a).vs k e
theorem bY4(n:Nat):madeCells #[Qc 0,Qc 0] (n*2)=(rgC (List.replicate n (0,0))).toArray:=by
 have h:∀ n:Nat,rgC (List.replicate n ((0:Int),(0:Int)))=List.replicate (n*2) (Qc 0):=fun n=>by
  induction n with
  |zero=>rfl
  |succ n ih=>rw[List.replicate_succ,rgC,ih,show(n+1)*2=n*2+1+1 by omega];rfl
 rw[h];refine Array.ext (by simp[madeCells]) (fun i a b=>?_);have:i % 2=0\/i % 2=1:=Oa
 rcases this with e|e<;>simp[madeCells,e]
theorem Bw.int{w W:World}(h:Bw H U L A F ns Y D M B V w W){v:Value}{a:List Int}(d:w.ownsRow H 3 1 v a.length (bLU a)){i:Nat}{y:Int}(l:a[i]?=some y):∃ g J,v= Qe g a.length J/\W.cell? ⟨g,i,none⟩=some (Qc y):=by
 obtain⟨g,J,e,b⟩:=bLE d l;obtain⟨a,j⟩:=h.f0.d;obtain⟨⟨c,f⟩,_⟩:=bEH d (k:=g) (by rw[e];rfl);exact⟨g,J,e,(Qo (h.fr.keep g (Qp w _ b) (bL5 j f Ob))).t b⟩
theorem cAP(hO:bVB C L A F)(hZ:L.length<=100000)(b9:A.length<=100000)(m9:F.length<=100000)(m5:ns<=1000000)(hF:∀ a7∈F,cA0 C L A F ns a7)(w:World)(hw:FdW H U L A F ns Y D M B V w):
 Calls prog 67 #[Qd U] w fun e d=>e= .returned (.tuple #[])/\bM4 H U L A F ns Y D M B V w d:=by
 obtain⟨af,u,rfl,_⟩:=eQ hw.fns
 have j7:∀ W,FdW H U L A F ns Y D (.slice af F.length u) B V W->W.cell? ⟨U,3,none⟩=some (.slice af F.length u):=fun W h=>by
  obtain⟨vI,a5,hp⟩:=h.prog;rw[cell_of_row _ _ _ _ _ _ hp];rfl
 have HE:Hid (bM4 H U L A F ns Y D (.slice af F.length u) B V w w):=⟨hw,Fd.refl _ _⟩;clear hw;go_enter func67,ntmps67
 go_upto_region 1 with fail
 go_loopg [2] (F.length+1) (fun x v2 wr=>∃ i:Nat,v2= Qc i/\i+x=F.length+1/\i<=F.length/\bM4 H U L A F ns Y D (.slice af F.length u) B V w wr)
 case atStart=>exact⟨0,rfl,Od,Od,HE.o⟩
 case round=>
  clear HE;obtain⟨i,rfl,i1,h6,hP⟩:=hrel;have p3:=j7 wr hP.1;have HP:Hid (bM4 H U L A F ns Y D (.slice af F.length u) B V w wr):=hP;have y1:=hP.1;clear hP
  by_cases hi:i < F.length
  ·have t0:decide ((i:Int) < (F.length:Int))=true:=by simp;omega
   obtain⟨a5,rfl⟩:=Oj gk;have f8:0<=(i:Int)/\(i:Int) < (F.length:Int):=Oa
   have l1:IntKind.i64.wrap ((i:Int)+1)=(i:Int)+1:=IntWalk.i64_in _ Oa;obtain⟨a7,hx⟩:∃ a7,F[i]?=some a7:=⟨F[i],List.getElem?_eq_getElem _⟩;obtain⟨f,Z,b,K,Kw,hf,h7,hv,i7,l3,h5,hN,hb,g5,z9⟩:=hF a7 (Qr hx);obtain⟨b6,gr,a6,b1,c1,b2,c2,b3,c3,rfl,i5,rfl,k7,g0,e0,e1,e2,e3,e4,e5,e6,e7,e8,e9,a8⟩:=y1.Q hf;obtain⟨gf,d7,j0,j9⟩:=bLE y1.fns hx;simp only[Value.slice.injEq]at j0;obtain⟨rfl,-,rfl⟩:=j0;obtain⟨g6,c6,j2,_⟩:=bLE k7.k (i:=0) (y:=b) (by rw[h5];rfl);simp only[Value.slice.injEq]at j2;obtain⟨rfl,-,rfl⟩:=j2;obtain⟨E,hE⟩:∃ E,E=Bw H U L A F ns (Qe gr L.length a6) D (Qe gf F.length u) B V wr:=⟨_,rfl⟩;have hC:Ck H U L A F ns (Qe gr L.length a6) D (Qe gf F.length u) B V wr.1.size E:=by rw[hE];exact Bw.ck y1
   have HR:Hid (In E wr):=by unfold Hid In;rw[hE];exact Bw.start y1
   have d0:∀ W,In E W->bM4 H U L A F ns (Qe gr L.length a6) D (Qe gf F.length u) B V wr W:=fun W h=>by unfold In at h;rw[hE]at h;exact⟨h.fd,h.fr⟩
   have k8:∀ W,In E W->W.cell? ⟨g6,0,none⟩=some (Qc b):=fun W h=>by
    unfold In at h;rw[hE]at h;obtain⟨_,_,e,a9⟩:=Bw.int h k7.k (i:=0) (y:=b) (by rw[h5];rfl);simp only[Value.slice.injEq,Option.some.injEq,Addr.mk.injEq]at e;obtain⟨⟨rfl,-⟩,-⟩:=e;exact a9
   have k5:∀ (j:Nat) c,f.e[j]?=some c->∃ gw,b3=some ⟨gw,0,none⟩/\∀ W,In E W->W.cell? ⟨gw,j,none⟩=some (Qc c):=fun j c hc=>by
    obtain⟨gw,_,e,_⟩:=bLE k7.h hc;simp only[Value.slice.injEq]at e;refine⟨gw,e.1,fun W h=>?_⟩;unfold In at h;rw[hE]at h;obtain⟨_,_,e',a9⟩:=Bw.int h k7.h hc;simp only[Value.slice.injEq,e.1,Option.some.injEq,Addr.mk.injEq]at e';obtain⟨⟨rfl,-⟩,-⟩:=e';exact a9
   have f5:0<=(b6:Int)/\(b6:Int) < (L.length:Int):=Oa
   have y0:=Qp _ _ g0;have k9:=Qp _ _ e0;have j4:=Qp _ _ j9;dsimp only at y0 k9 j4;have d4:Hid (f.c=[b]):=h5;have HV:Hid (f.b=(Z:Int)):=h7;have d1:Hid _:=z9;clear h5 h7 z9 hE k7 y1;go_upto_region 3 with fail
   go_cut [3]from 17 to 29 (fun v d=>∃ t:Nat,v= Qd t/\wr.1.size<=t/\d.1[t]?=some (bMB f (some ⟨g6,0,none⟩) c1 b2 c2 b3 c3)/\In E d)
   case first=>
    go_region
    all_goals go_wp2
    all_goals go_meet
    all_goals exact⟨_,rfl,Ql _,Qk wr _,hC.dr (hC.al HR.o _)⟩
   case rest=>
    obtain⟨t,rfl,m8,q3,g1⟩:=hcut;obtain⟨l,z1⟩:∃ l,l=Ad E t (bMB f (some ⟨g6,0,none⟩) c1 b2 c2 b3 c3):=⟨_,rfl⟩;have n:Ck H U L A F ns (Qe gr L.length a6) D (Qe gf F.length u) B V (t+1) l:=by rw[z1];exact hC.ad m8
    have HX:Hid (In l wc):=by unfold Hid In;rw[z1];exact⟨g1,q3⟩
    have k4:∀ W,In l W->In E W/\(W.cell? ⟨t,5,none⟩=some (Qe g6 1 c1)/\W.cell? ⟨t,6,none⟩=some (.slice b2 f.g.length c2)/\W.cell? ⟨t,7,none⟩=some (.slice b3 f.e.length c3)/\W.cell? ⟨t,8,none⟩=some (Qc (Z:Int))):=fun W h=>by
     unfold In at h;rw[z1]at h;obtain⟨_,_,_,_,_,d5,d6,z,d8,_⟩:=bRD h.2;exact⟨h.1,by rw[d5,d4.o];rfl,d6,z,by rw[d8,HV.o]⟩
    obtain⟨_,d5,d6,z,d8⟩:=k4 wc HX.o;have i6:0<=(Z:Int)/\(Z:Int)<=100000:=Oa
    have m6:∀ w:World,(Instr.makeSlice 228 (Qc (Z:Int)) (Qc (Z:Int))).run prog w= .ok (Qe w.1.size Z Z) (w.alloc (.cells (madeCells #[Qc 0,Qc 0] (Z*2)) 232)):=fun w=>by
     obtain⟨i0,m7,m1,m0,y6⟩:=info_parts infoRg;have:=run_make (P:=prog) (w:=w) 228 232 i0 (.agg #[Qc 0,Qc 0]) underlying228 m7 m1 .i64 .i64 (Z:Int) (Z:Int) Oa (Int.le_refl _) (by rw[y6];omega) Oa;rw[m0]at this;simp only[Int.toNat_natCast]at this;exact this
    clear g1 q3 g0 e0 e1 e2 e3 e4 e5 e6 e7 e8 e9 a8 y0 k9 j4 j9 p3 z1;go_upto_region 5 with fail
    obtain⟨W5,y3⟩:∃ W5,W5=(wc.alloc (.cells (madeCells #[Qc 0,Qc 0] (Z*2)) 232)).alloc (stO false wc.1.size Z):=⟨_,rfl⟩;have X5:In l W5:=by rw[y3];exact n.al (n.al HX.o _) _
    have m:W5.1[wc.1.size+1]?=some (stO false wc.1.size Z):=by
     have:=Qk (wc.alloc (.cells (madeCells #[Qc 0,Qc 0] (Z*2)) 232)) (stO false wc.1.size Z);rw[hsz]at this;rw[y3];exact this
    have g3:StW Z false wc.1.size W5:=⟨List.replicate Z (0,0),Od,by rw[y3,<-bY4];exact(On Od).t (Qk wc _),fun _ r hr=>by
     obtain⟨_,rfl⟩:=List.mem_replicate.1 hr;unfold Rk;omega⟩
    have hz:=n.sz _ HX.o;have y2:∀ W j a4,In l W->In l (W.setCell ⟨wc.1.size,j,none⟩ a4):=fun W j a4 h=>n.far2 W wc _ j a4 h HX.o Ol;rw[<-y3];clear y3 d5 d6 z d8 HX m6;generalize wc.1.size=k at*;obtain⟨q,y4⟩:∃ q,q=Ads Z (Ad l (k+1) (stO false k Z)) false k:=⟨_,rfl⟩;have z7:Ck H U L A F ns (Qe gr L.length a6) D (Qe gf F.length u) B V (k+1+1) q:=by rw[y4];exact(n.ad Oa).ads
    have X2:Hid (In q W5):=by unfold Hid In;rw[y4];exact⟨⟨X5,m⟩,g3⟩
    have k0:∀ W,In q W->In l W/\W.1[k+1]?=some (stO false k Z)/\StW Z false k W:=fun W h=>by unfold In at h;rw[y4]at h;exact⟨h.1.1,h.1.2,h.2⟩
    have h8:∀ W j a4,In q W->StW Z false k (W.setCell ⟨k,j,none⟩ a4)->In q (W.setCell ⟨k,j,none⟩ a4):=fun W j a4 h hs=>by
     have h3:=y2 W j a4 (k0 W h).1;have h4:=(k0 W h).2.1;unfold In;rw[y4];exact⟨⟨h3,(Om (by show k+1≠k;omega)).t h4⟩,hs⟩
    clear X5 m g3 y4 y2;go_wp2;go_loopg [5] (f.g.length+1) (fun x v5 wr=>∃ v:Nat,v5= Qc (v:Nat)/\v+x=f.g.length+1/\v<=f.g.length/\In q wr)
    case atStart=>exact⟨0,rfl,Od,Od,X2.o⟩
    case round=>
     clear X2;obtain⟨v,rfl,l0,i9,h9⟩:=hrel;have z8:Hid (In q wr):=h9;obtain⟨h1,m,_⟩:=k0 _ h9;obtain⟨_,d5,d6,z,d8⟩:=k4 _ h1;obtain⟨s0,s1,_⟩:=bKX m;have Q4:Hid _:=m;clear h9 h1 m
     by_cases i8:v < f.g.length
     ·have t1:decide ((v:Int) < (f.g.length:Int))=true:=by simp;omega
      obtain⟨m2,rfl⟩:∃ a5,gk=a5+1:=⟨gk - 1,Oa⟩;have y7:v < Z:=Oa
      have g4:0<=(v:Int)/\(v:Int) < (Z:Int):=Oa
      have m4:IntKind.i64.wrap ((v:Int)+1)=(v:Int)+1:=IntWalk.i64_in _ Oa;go_upto_region 8 with fail
      go_region_with (go_at_call 111;refine(bOH _).mono ?_;rintro e W8 ⟨rfl,c5⟩;have S8:Hid (In q W8):=z7.be (z7.dr z8.o) c5;obtain⟨_,q8,y8⟩:=k0 _ S8.o;obtain⟨n0,n1,_⟩:=bKX q8;obtain⟨rn,f1,f2,_⟩:=y8.get y7;have h0:=y8.frz;have d3:Hid (StW Z false k W8):=y8;clear y8 q8)
      all_goals go_wp2
      all_goals go_roundg m2
      all_goals try (case rel=>exact⟨v+1,Od,Oa,Oa,h8 _ _ _ (h8 _ _ _ S8.o (StW.lo d3.o y7)) (StW.hi (StW.lo d3.o y7) y7)⟩)
      all_goals try (case measure=>omega)
     ·have t1:decide ((v:Int) < (f.g.length:Int))=false:=by simp;omega
      have X3:Hid (In l wr/\wr.1[k+1]?=some (stO false k Z)/\StW Z false k wr):=k0 _ z8.o;go_wp2;go_loopg [6] (f.e.length+1) (fun x v6 wr=>∃ (j:Nat) (d':Bool) (g':Nat),v6= Qc (j:Nat)/\j+x=f.e.length+1/\j<=f.e.length/\In l wr/\wr.1[k+1]?=some (stO d' g' Z)/\StW Z d' g' wr)
      case atStart=>exact⟨0,false,k,rfl,Od,Od,X3.o⟩
      case round=>
       clear X3 d5 d6 z d8 s0 s1 Q4 z8;obtain⟨j,d',g',rfl,i3,i2,h9,m,k6⟩:=hrel;obtain⟨g9,d5,d6,z,d8⟩:=k4 _ h9;obtain⟨s0,s1,_⟩:=bKX m;have Q4:Hid _:=m;have z2:Hid (In l wr):=h9;clear h9 m
       by_cases hj:j < f.e.length
       ·have t2:decide ((j:Int) < (f.e.length:Int))=true:=by simp;omega
        obtain⟨m3,rfl⟩:∃ a5,gk=a5+1:=⟨gk - 1,Oa⟩;have f9:0<=(j:Int)/\(j:Int) < (f.e.length:Int):=Oa
        have m4:IntKind.i64.wrap ((j:Int)+1)=(j:Int)+1:=IntWalk.i64_in _ Oa;obtain⟨c,hc⟩:∃ c,f.e[j]?=some c:=⟨f.e[j],List.getElem?_eq_getElem _⟩;obtain⟨x,y,b4,j8,z0,hy,y6⟩:=d1.o c (Qr hc);obtain⟨gw,rfl,xw⟩:=k5 j c hc;have xw:=xw wr g9;obtain⟨kc,f4,c9,a1,k1,a2,k2,a3,k3,rfl,i4,j1,z5,g0,e0,e1,e2,e3,e4,e5,e6,e7,e8,e9,a8⟩:=(n.fd _ z2.o).Q j8;simp only[Value.slice.injEq,Option.some.injEq,Addr.mk.injEq]at j1;obtain⟨⟨rfl,-⟩,-,rfl⟩:=j1;obtain⟨g7,c7,z4,xy,j6⟩:=bNN z5 (i:=0) (y:=y) (by rw[z0];rfl);obtain⟨g8,c8,z3,xz,_⟩:=bNN z5 (i:=1) (y:=b4) (by rw[z0];rfl);rw[z4]at z3;simp only[Value.slice.injEq,Option.some.injEq,Addr.mk.injEq]at z4 z3;obtain⟨rfl,-,rfl⟩:=z4;obtain⟨⟨rfl,-⟩,-⟩:=z3;have f7:0<=(kc:Int)/\(kc:Int) < (L.length:Int):=Oa
        have y0:=Qp _ _ g0;have k9:=Qp _ _ e0;have j3:=Qp _ _ xw;have j5:=Qp _ _ z;dsimp only at y0 k9 j3 j5;have d9:Hid (x.c=[y,b4]):=z0;clear z0 z5;go_upto_region 12 with fail
        go_cut [7]from 53 to 63 (fun v d=>∃ b7:Nat,v= Qd b7/\wr.1.size<=b7/\d.1[b7]?=some (bMB x (some ⟨g7,0,none⟩) k1 a2 k2 a3 k3)/\Below wr.1.size wr d)
        case first=>
         go_region
         all_goals go_wp2
         all_goals go_meet
         all_goals exact⟨_,rfl,Ql _,Qk wr _,((Below.refl _ _).alloc Ol _).drew⟩
        case rest=>
         obtain⟨b7,rfl,f6,q7,hB⟩:=hcut;obtain⟨_,_,l2,_,_,l5,_⟩:=bRD q7;rw[show x.c.length=2 by rw[d9.o];rfl]at l5;have xy:=(hB.cell (p:=⟨g7,0,none⟩) j6).t xy;have xz:=(hB.cell (p:=⟨g7,1,none⟩) j6).t xz;have y9:=(Oo Q4.o);have m:=(hB.block _ y9).t Q4.o;have k6:=k6.below hB;have G:Hid (In l wc):=n.be z2.o hB;clear s0 s1 q7 hB d5 d6 z d8 g0 e0 e1 e2 e3 e4 e5 e6 e7 e8 e9 a8 y0 k9 j3 j5 xw z2 Q4 y9;obtain⟨s0,s1,_⟩:=bKX m;have y9:=(Oo m);have Q4:Hid _:=m;clear m;have F0:=n.dr G.o;go_upto_region 13 with fail
         have hh:=bT2 g5 hZ hv y b4 x.s d' wc.drew hy y6 (n.fd _ F0) (k6.below (Below.refl _ _).drew);have b5:∀ o,Below wc.drew.1.size wc.drew o->In l o/\o.1[k+1]?=some (stO d' g' Z):=fun o y5=>⟨n.be F0 y5,(y5.block _ y9).t Q4.o⟩;clear k6 F0 k5 k8 k0 h8 k4 d0 j7 hF hO hN hb g5 d1 hy y6 hC z7 d4 HV d9 j8 hc;refine bUA (S:=fun d=>d=wc.drew) (c:=12) (by kernel_rfl) ?_;refine bM9 (i:=0) (v:=?tv0) [12,13] rfl (by kernel_rfl) (by kernel_rfl) (by kernel_rfl) (by kernel_rfl) (fun _ _ _ h=>h) (Or.l ⟨by rfl,?ty0⟩) rfl ?tr0
         case ty0=>(intro d a;subst a;go_simp;try with_reducible rfl)
         simp only[Act.put,List.setIfInBounds_toArray];refine bM9 (i:=1) (v:=?tv1) [12,13] rfl (by kernel_rfl) (by kernel_rfl) (by kernel_rfl) (by kernel_rfl) (fun _ _ _ h=>h) (Or.l ⟨by rfl,?ty1⟩) rfl ?tr1
         case ty1=>(intro d a;subst a;go_simp;try with_reducible rfl)
         simp only[Act.put];refine bM9 (i:=2) (v:=?tv2) [3,4,5,12,13] rfl (by kernel_rfl) (by kernel_rfl) (by kernel_rfl) (by kernel_rfl) (fun _ _ _ h=>h) (Or.l ⟨by rfl,?ty2⟩) rfl ?tr2
         case ty2=>(intro d a;subst a;go_simp;try with_reducible rfl)
         simp only[Act.put];refine bM9 (i:=3) (v:=?tv3) [4,5,12,13] rfl (by kernel_rfl) (by kernel_rfl) (by kernel_rfl) (by kernel_rfl) (fun _ _ _ h=>h) (Or.l ⟨by rfl,?ty3⟩) rfl ?tr3
         case ty3=>(intro d a;subst a;go_simp;try with_reducible rfl)
         simp only[Act.put];refine bM9 (i:=4) (v:=?tv4) [5,12,13] rfl (by kernel_rfl) (by kernel_rfl) (by kernel_rfl) (by kernel_rfl) (fun _ _ _ h=>h) (Or.l ⟨by rfl,?ty4⟩) rfl ?tr4
         case ty4=>(intro d a;subst a;go_simp;try with_reducible rfl)
         simp only[Act.put];refine bM9 (i:=5) (v:=?tv5) [12,13] rfl (by kernel_rfl) (by kernel_rfl) (by kernel_rfl) (by kernel_rfl) (fun _ _ _ h=>h) (Or.l ⟨by rfl,?ty5⟩) rfl ?tr5
         case ty5=>(intro d a;subst a;go_simp;try with_reducible rfl)
         simp only[Act.put];refine bM9 (i:=6) (v:=?tv6) [7,12,13] rfl (by kernel_rfl) (by kernel_rfl) (by kernel_rfl) (by kernel_rfl) (fun _ _ _ h=>h) (Or.l ⟨by rfl,?ty6⟩) rfl ?tr6
         case ty6=>(intro d a;subst a;go_simp;try with_reducible rfl)
         simp only[Act.put];refine bM9 (i:=7) (v:=?tv7) [12,13] rfl (by kernel_rfl) (by kernel_rfl) (by kernel_rfl) (by kernel_rfl) (fun _ _ _ h=>h) (Or.l ⟨by rfl,?ty7⟩) rfl ?tr7
         case ty7=>(intro d a;subst a;go_simp;try with_reducible rfl)
         simp only[Act.put];refine bM9 (i:=8) (v:=?tv8) [9,10,11,12,13] rfl (by kernel_rfl) (by kernel_rfl) (by kernel_rfl) (by kernel_rfl) (fun _ _ _ h=>h) (Or.l ⟨by rfl,?ty8⟩) rfl ?tr8
         case ty8=>(intro d a;subst a;go_simp;try with_reducible rfl)
         simp only[Act.put];refine bM9 (i:=9) (v:=?tv9) [10,11,12,13] rfl (by kernel_rfl) (by kernel_rfl) (by kernel_rfl) (by kernel_rfl) (fun _ _ _ h=>h) (Or.l ⟨by rfl,?ty9⟩) rfl ?tr9
         case ty9=>(intro d a;subst a;go_simp;try with_reducible rfl)
         simp only[Act.put];refine bM9 (i:=10) (v:=?tv10) [11,12,13] rfl (by kernel_rfl) (by kernel_rfl) (by kernel_rfl) (by kernel_rfl) (fun _ _ _ h=>h) (Or.l ⟨by rfl,?ty10⟩) rfl ?tr10
         case ty10=>(intro d a;subst a;go_simp;try with_reducible rfl)
         simp only[Act.put];refine bM9 (i:=11) (v:=?tv11) [12,13] rfl (by kernel_rfl) (by kernel_rfl) (by kernel_rfl) (by kernel_rfl) (fun _ _ _ h=>h) (Or.l ⟨by rfl,?ty11⟩) rfl ?tr11
         case ty11=>(intro d a;subst a;go_simp;try with_reducible rfl)
         simp only[Act.put];refine bTD (i:=12) rfl (by kernel_rfl) (by kernel_rfl) (fun K hK=>?_);go_simp
         refine hh.mono ?_;rintro e o ⟨d2,g2,rfl,z6,y5⟩;obtain⟨h2,n4⟩:=b5 o y5;obtain⟨u0,u1,uf⟩:=bKX n4;have S3:Hid (In l o):=h2;have N4:Hid (o.1[k+1]?=some (stO d' g' Z)):=n4;have b8:Hid (StW Z d2 g2 o):=z6;clear n4 h2 z6 y5 b5 hh;refine hK.o _ _ ?_
         try simp only[Act.put,List.setIfInBounds_toArray,List.set_cons_zero,List.set_cons_succ]
         refine bTD (i:=13) rfl (by kernel_rfl) (by kernel_rfl) (fun K hK=>?_);go_simp
         refine hK.o _ _ ?_;refine bW6 (by kernel_rfl) ?_
         all_goals go_wp2
         all_goals go_roundg m3
         all_goals try (case rel=>exact⟨j+1,d2,g2,Od,Oa,Oa,n.far _ _ _ _ _ _ S3.o Oa N4.o,bN8 N4.o,b8.o.set2 N4.o _ _⟩)
         all_goals try (case measure=>omega)
       ·have t2:decide ((j:Int) < (f.e.length:Int))=false:=by simp;omega
        have x6:=k8 wr g9;have F0:=n.dr z2.o;go_upto_region 14 with fail
        go_region_with (go_at_call 113;refine((cAZ hN hO hZ b9 m9 hv m5 (b.toNat+1)).1 b d' g' _ (Nat.lt_succ_self _) hb (n.fd _ F0) (k6.below (Below.refl _ _).drew)).mono ?_;rintro e o ⟨d2,g2,rfl,z6,hp⟩;have S2:Hid (In l o):=n.nx _ _ F0 hp)
        all_goals go_wp2
        all_goals go_roundg a5
        all_goals try (case rel=>
         have h2:=d0 _ (k4 _ S2.o).1;exact⟨i+1,Od,Oa,Oa,h2.1,HP.o.2.t h2.2⟩)
        all_goals try (case measure=>omega)
  ·have t0:decide ((i:Int) < (F.length:Int))=false:=by simp;omega
   go_wp2;go_end0
   exact⟨rfl,HP.o⟩
end
section
def QgW(U n:Nat)(w:World):Prop:=∃ (gl ll cl gf lf cf m k:Nat) (vI D B:Value) (a:Option Addr) (c:Nat) (xs ys:Array Value),w.1[U]?=some (Qf #[Qe gl ll cl,vI,D,Qe gf lf cf,Qc (m:Int),B] 76)/\m < lf/\k < ll/\w.1[gf]?=some (.cells xs 3 (0,0))/\xs[m]?=some (Qc (k:Int))/\w.1[gl]?=some (.cells ys 73 (0,0))/\ys[k*11+6]?=some (.slice a n c)
theorem QgW.far{U n b:Nat}{cs:Array Value}{W W2:World}(h:QgW U n W)(d:W.1[b]?=some (.cells cs 37 (0,0)))(e:∀ k,k≠b->W2.1[k]?=W.1[k]?):QgW U n W2:=by
 obtain⟨p,x,m,o,v,l,y,k,z,D,B,a,c,G,ys,f,q,r,i,t,j,u⟩:=h;exact⟨p,x,m,o,v,l,y,k,z,D,B,a,c,G,ys,(e _ (bEF f d Ob)).t f,q,r,(e _ (bEF i d Ob)).t i,t,(e _ (bEF j d Ob)).t j,u⟩
theorem QgW.of{H U u m:Nat}{L:List NQ}{A F:List Int}{Y vI D M B:Value}{V:List V3}{W:World}{x:Int}{n:NQ}(h:FdW H U L A F u Y D M B V W)(r:W.1[U]?=some (Qf #[Y,vI,D,M,Qc (m:Int),B] 76))(l:F[m]?=some x)(t:Ndq L x n):QgW U n.g.length W:=by
 obtain⟨d,o,rfl,j⟩:=bLE h.fns l;obtain⟨k,e,p,_,_,a,c,_,_,rfl,q,rfl,_,_,_,_,_,_,_,_,b,_⟩:=h.Q t;obtain⟨⟨v,f⟩,_⟩:=bEH h.fns (k:=d) rfl;obtain⟨⟨y,i⟩,_⟩:=bEH h.nodes (k:=e) rfl;rw[cell_of_row _ _ _ _ _ _ f]at j;rw[cell_of_row _ _ _ _ _ _ i]at b;exact⟨e,_,p,d,_,o,m,k,vI,D,B,a,c,v,y,r,(List.getElem?_eq_some_iff.1 l).1,q,f,j,i,b⟩
def bV7(s:ByteArray)(w:World):Ending->World->Prop:=fun e w'=>Below w.1.size w w'/\
 (((eZ s).1≠0/\e= .returned (.tuple #[.pointer none,.agg #[Qc (eZ s).1,Qc (eZ s).2]]))\/
  ((eZ s).1=0/\∃ U n,e= .returned (.tuple #[Qd U,.agg #[Qc 0,Qc 0]])/\QgW U n w'/\mI (rdT s) (qV (rdT s)).toNat=some n))
abbrev f0:Obj:= Qf #[Qc 0,Qc 0] 37
structure Rb(O:Nat)(Z:Array Value)(w W:World):Prop where
 b:Below w.1.size w W
 f:W.1[w.1.size]?=some f0
 p:W.1[O]?=some (.cells Z 126 (0,0))
section
variable {w W W2:World} {O X U gw cw:Nat} {Z:Array Value} {L:List NQ} {I A F:List Int} {m:Int} {s:Ns} {Y vI D M B E K P R:Value} {V j:List V3} {T:List Tok} {st:QS} {ns:Nat}
theorem Rb.step(h:Rb O Z w W)(c:W2.os=W.os)(d:W2.tape=W.tape)(e:W2.output=W.output)(l:W.1.size<=W2.1.size)(a:∀ k,k < w.1.size+1->k < W.1.size->W2.1[k]?=W.1[k]?)(i:W2.1[O]?=W.1[O]?):Rb O Z w W2:=by
 have f:=(Oo h.f);exact⟨⟨c.t h.b.os,d.t h.b.tape,e.t h.b.output,Qm h.b.size l,fun k b=>(a k Oa Oa).t (h.b.block k b)⟩,(a _ Oa f).t h.f,i.t h.p⟩
theorem Rb.lt(h:Rb O Z w W):O < W.1.size:=(Oo h.p)
theorem Rb.below(h:Rb O Z w W)(a:Below W.1.size W W2):Rb O Z w W2:=h.step a.os a.tape a.output a.size (fun k _ b=>a.block k b) (a.block _ h.lt)
theorem Rb.nx(h:Rb O Z w W)(a:NmW (w.1.size+1) X U L I A F m s Y vI D M B E V W)(b:Nx X U Y B E K P W W2)(d:w.1.size+1<=X)(f:w.1.size+1<=U):Rb O Z w W2:=
 h.step b.os b.tape b.output b.size (fun k i c=>b.keep k c Oa Oa (fun e=>by have:=(bEH a.nodes e).2;omega) (fun e=>by have:=(bEH a.d e).2;omega) (fun e=>by have:=(bEH a.b e).2;omega))
  (b.keep _ h.lt (bEF h.p a.nm Ob) (bEF h.p a.prog Ob) (bL5 a.nodes h.p Ob) (bL5 a.d h.p Ob) (bL5 a.b h.p Ob))
theorem Rb.fz(h:Rb O Z w W)(b:FdW (w.1.size+1) U L A F ns Y D M B V W)(a:Fz Y B W W2):Rb O Z w W2:=by
 obtain⟨i,c⟩:=b.d;exact h.step a.os a.tape a.output a.size (fun k f d=>a.keep k d (fun e=>by have:=(bEH c e).2;omega) (fun e=>by have:=(bEH b.nodes e).2;omega)) (a.keep _ h.lt (bL5 c h.p Ob) (bL5 b.nodes h.p Ob))
theorem Rb.fd(h:Rb O Z w W)(c:FdW (w.1.size+1) U L A F ns Y D M B V W)(a:Fd B W W2):Rb O Z w W2:=by
 obtain⟨i,b⟩:=c.d;exact h.step a.os a.tape a.output a.size (fun k f d=>a.keep k d (fun e=>by have:=(bEH b e).2;omega)) (a.keep _ h.lt (bL5 b h.p Ob))
theorem PW.nm{H:Nat}(h:PW H O U gw cw T st Y vI V W):NmW H W.1.size U st.L st.c [] [] 0 ⟨[],0,0,[]⟩ Y vI (.slice none 0 0) (.slice none 0 0) (.slice none 0 0) (.slice none 0 0) V (W.alloc (Qf #[Qd U,.slice none 0 0,Qc 0,Qc 0] 129)):=by
 have d:∀ k,k < W.1.size->(W.alloc (Qf #[Qd U,.slice none 0 0,Qc 0,Qc 0] 129)).1[k]?=W.1[k]?:=fun k a=>On a;have nil:∀ (e:TypeId) (f:Nat),(W.alloc (Qf #[Qd U,.slice none 0 0,Qc 0,Qc 0] 129)).ownsRow H e f (.slice none 0 0) 0 []:=fun e f=>⟨Od,.l ⟨rfl,rfl⟩⟩
 exact⟨Qk _ _,(d _ (Oo h.prog)).t h.prog,cD h.nodes (fun k a=>d k (bLP h.nodes a)),cD h.its (fun k a=>d k (bLP h.its a)),nil _ _,nil _ _,nil _ _,nil _ _,h.c.move (fun k i=>by
  obtain⟨⟨c,b⟩,_⟩:=h.c.typ i;rcases b with b|b<;>exact d k (Oo b)),by have:=h.T;simp;omega⟩
end
theorem bXZ{w:World}{b b' n a:Nat}{e:TypeId}{v:Value}{c:List Value}(h:w.ownsRow b e a v n c)(l:b'<=b):w.ownsRow b' e a v n c:=
 ⟨h.1,h.2.imp id (fun⟨g,J,d,f,i,k⟩=>⟨g,J,d,f,Qm l i,k⟩)⟩
theorem NmW.setM{H X U:Nat}{L:List NQ}{I A F:List Int}{m:Int}{s:Ns}{Y vI D M B E:Value}{V:List V3}{w:World}(h:NmW H X U L I A F m s Y vI D M B E V w)(d:Int):
 NmW H X U L I A F d s Y vI D M B E V (w.setCell ⟨U,4,none⟩ (Qc d))/\Nx X U Y B E B E w (w.setCell ⟨U,4,none⟩ (Qc d)):=by
 have off:∀ {k:Nat} {c:Array Value} {t:TypeId},w.1[k]?=some (.cells c t (0,0))->t≠76->(w.setCell ⟨U,4,none⟩ (Qc d)).1[k]?=w.1[k]?:=fun r f=>Om (bEF r h.prog f)
 have b:∀ {n l:Nat} {e:TypeId} {v:Value} {o:List Value},w.ownsRow H e l v n o->e≠76->(w.setCell ⟨U,4,none⟩ (Qc d)).ownsRow H e l v n o:=fun i f=>cD i (fun k p=>by
  obtain⟨⟨c,a⟩,_⟩:=bEH i p;exact off a f)
 exact⟨⟨(off h.nm Ob).t h.nm,aM _ h.prog,b h.nodes Ob,b h.its Ob,b h.arrs Ob,b h.fns Ob,b h.d Ob,b h.b Ob,h.c.move (fun k u=>by
  obtain⟨⟨c,a⟩,_⟩:=h.c.typ u;rcases a with a|a
  ·exact off a Ob
  ·exact off a Ob),by simp[World.setCell];exact h.size⟩,⟨rfl,rfl,rfl,by simp[World.setCell],fun k _ _ q _ _ _=>Om q,fun k e=> .l e,fun k e=> .l e⟩⟩
theorem NmW.fd{H X U:Nat}{L:List NQ}{I A F:List Int}{m:Int}{s:Ns}{Y vI D M B E:Value}{V:List V3}{w:World}(h:NmW H X U L I A F m s Y vI D M B E V w):SrW H U L A F s.d.length Y D M B V w w:=
 ⟨⟨⟨_,_,h.prog⟩,h.nodes,h.arrs,h.fns,⟨_,h.d⟩,h.c⟩,⟨rfl,rfl,rfl,Ql _,fun _ _ _ _=>rfl⟩,_,rfl,h.d⟩
theorem bPX(s:ByteArray)(w:World){c p:Int}(d:c≠0)(x:bNC s=([],c,p))(y:eZ s=(c,p)):Calls prog 38 #[.string s] w (bV7 s w):=by
 have k3:∀ W,Calls prog 60 #[.string s] W fun e w'=>Below W.1.size W w'/\e= .returned (.tuple #[.slice none 0 0,.agg #[Qc c,Qc p]]):=fun W=>(bVC s W).mono (by
  rintro e w' ⟨h1,v,i,_,t⟩;rw[x]at i t;rw[t d]at i;exact⟨h1,i⟩)
 have t0:(c !=0)=true:=by simpa using d
 have f:Hid (eZ s=(c,p)/\c≠0):=⟨y,d⟩;clear x y d;have l:=Qk w f0;have o:Below w.1.size w (w.alloc f0):=(Below.refl _ _).alloc Ol _;have z:=(Oo l);go_enter func38,ntmps38
 go_upto_region 1 with fail
 generalize w.alloc f0=W0 at*;go_upto_region 2 with(go_at_call 60;refine(k3 _).mono ?_;rintro e h ⟨q,rfl⟩)
 have n:=o.t (q.mono o.size);have k:=(q.block _ z).t l;have u:=(Oo k);obtain⟨a,b⟩:∃ a,a=h.alloc (Qf #[Qc c,Qc p] 37):=⟨_,rfl⟩;have G:a.1[w.1.size]?=some f0:=by rw[b];exact(On u).t k
 have k2:a.1[h.1.size]?=some (Qf #[Qc c,Qc p] 37):=by rw[b];exact Qk _ _
 have r:Below w.1.size w a:=by rw[b];exact n.alloc n.size _
 have a1:w.1.size≠h.1.size:=Oa
 rw[<-b];clear b l o z q n k u;obtain⟨q0,q1,z0⟩:=iV G;obtain⟨p0,p1,z1⟩:=iV k2;clear G k2;go_upto_region 3 with fail
 go_region
 all_goals go_wp2
 all_goals obtain⟨x0,x1⟩:=dQ (w:=a) (u0:= Qc c) (u1:= Qc p) q0 q1
 all_goals (refine bodyPost_ret (v:= .tuple #[.pointer none,.agg #[Qc c,Qc p]]) (by simp[results,results38,go_sem,x0,x1]) rfl ⟨?_,Or.l ⟨?_,?_⟩⟩)
 all_goals first|(rw[f.o.1];exact f.o.2)|(rw[f.o.1])|exact(Qv (p:=⟨w.1.size,1,none⟩) (Qv (p:=⟨w.1.size,0,none⟩) r Ol _) Ol _).drew|exact Qv (p:=⟨w.1.size,1,none⟩) (Qv (p:=⟨w.1.size,0,none⟩) r.drew Ol _) Ol _
theorem bTP(s:ByteArray)(w:World)(h4:s.size<=4000)(hc:(dN s).a=0):Calls prog 38 #[.string s] w (bV7 s w):=by
 obtain⟨Q,hq,hT,b2,e4⟩:=bUM h4 hc;have e3:0 < Q.length:=by have:=hT.len;have:=hT.some;omega
 have c8:∀ W,Calls prog 60 #[.string s] W fun e w'=>Below W.1.size W w'/\∃ gw cw,e= .returned (.tuple #[Qe gw Q.length cw,.agg #[Qc 0,Qc 0]])/\w'.ownsRow (W.1.size+1) 220 4 (Qe gw Q.length cw) Q.length (fJ Q):=fun W=>(bVC s W).mono (by
  rintro e w' ⟨h1,v,h2,h3,_⟩;rw[hq]at h2 h3;rcases h3.2 with⟨_,h0⟩|⟨g,J,l2,rfl,_⟩
  ·have:Q.length=0:=h0;omega
  ·exact⟨h1,g,J,h2,h3⟩)
 have h8:=bQJ hT;have b7:=Qk w f0;have d8:Below w.1.size w (w.alloc f0):=(Below.refl _ _).alloc Ol _;have i0:(w.alloc f0).1.size=w.1.size+1:=hsz _ _;go_enter func38,ntmps38
 go_upto_region 1 with fail
 generalize w.alloc f0=W0 at*;go_upto_region 2 with(go_at_call 60;refine(c8 _).mono ?_;rintro e f ⟨g4,gw,cw,rfl,y4⟩)
 have d7:=d8.t (g4.mono d8.size);have b8:=(g4.block _ Oa).t b7;have o0:=g4.size;go_upto_region 5 with fail
 obtain⟨W3,j1⟩:∃ W3,W3=((f.alloc f0).alloc (Qf #[.slice none 0 0,.slice none 0 0,.slice none 0 0,.slice none 0 0,Qc 0,.slice none 0 0] 76)).alloc (Qf #[Qe gw Q.length cw,Qc 0,Qc 0,Qc 0,Qc 0,Qd (f.1.size+1)] 126):=⟨_,rfl⟩
 have j5:Below f.1.size f W3:=by
  rw[j1]
  repeat (first|exact Below.refl _ _|refine Below.alloc ?_ (by first|(simp;done)|(simp;omega)) _)
 have k1:W3.1[f.1.size+1]?=some (Qf #[.slice none 0 0,.slice none 0 0,.slice none 0 0,.slice none 0 0,Qc 0,.slice none 0 0] 76):=by
  rw[j1]
  repeat (first|rw[hal,if_neg (by simp only[hsz];omega)]|rw[hal,if_pos (by simp only[hsz])])
 have k2:W3.1[f.1.size+1+1]?=some (Qf #[Qe gw Q.length cw,Qc 0,Qc 0,Qc 0,Qc 0,Qd (f.1.size+1)] 126):=by
  rw[j1]
  repeat (first|rw[hal,if_neg (by simp only[hsz];omega)]|rw[hal,if_pos (by simp only[hsz])])
 rw[<-j1];have b1:PW (w.1.size+1) (f.1.size+1+1) (f.1.size+1) gw cw Q ⟨0,0,0,0,[],[]⟩ (.slice none 0 0) (.slice none 0 0) [] W3:=⟨cD (bXZ y4 Oa) (fun a1 u=>j5.block a1 (bLP y4 u)),k2,k1,⟨rfl,.l ⟨rfl,rfl⟩⟩,⟨rfl,.l ⟨rfl,rfl⟩⟩,trivial,e3,b2,e4,fun a1 u=>by cases u⟩;have d6:=(j5.block _ Oa).t b8;have z1:=d7.t (j5.mono d7.size);have i1:=j5.size;have g0:w.1.size+1<=f.1.size+1:=Oa
 clear j1 j5 k1 k2 y4 b8 d7 g4 b7 d8 c8 i0;generalize f.1.size+1=U at*;have n6:w.1.size+1<=U+1:=Oa
 generalize U+1=O at*;go_upto_region 6 with(go_at_call 61;refine(bWM b1).mono ?_;rintro e W4 ⟨rfl,Y,z,V,z3,y2,-⟩)
 have b6:=(Oo d6);have z2:Rb O _ w W4:=⟨⟨y2.os.t z1.os,y2.tape.t z1.tape,y2.output.t z1.output,Qm z1.size y2.size,fun a1 u=>(y2.keep a1 Oa Oa Oa (by simp[Value.ownBlock])).t (z1.block a1 u)⟩,(y2.keep _ b6 Oa Oa (by simp[Value.ownBlock])).t d6,z3.par⟩;obtain⟨c0,c1,c2,c3,c4,c5,_⟩:=z3.cells;clear b1 d6 z1 i1 b6 y2
 by_cases y8:(bP (aW s)).1.a=0
 case neg=>
  have d0:(bLI Q).a≠0:=by rw[h8.1];exact y8
  have HR:Hid (eZ s=((bLI Q).a,(bLI Q).e)/\(bLI Q).a≠0):=⟨by unfold eZ;rw[Oh,Oh,if_pos y8,h8.1,h8.2.1 y8],d0⟩;have t0:((bLI Q).a !=0)=true:=by simpa using d0
  have hB:=z2.b;obtain⟨q0,q1,z0⟩:=iV z2.f;clear d0 y8 h8 z3 z2;go_upto_region 7 with fail
  go_region
  all_goals go_wp2
  all_goals obtain⟨x0,x1⟩:=dQ (w:=W4) (u0:= Qc (bLI Q).a) (u1:= Qc (bLI Q).e) q0 q1
  all_goals (refine bodyPost_ret (v:= .tuple #[.pointer none,.agg #[Qc (bLI Q).a,Qc (bLI Q).e]]) (by simp[results,results38,go_sem,x0,x1]) rfl ⟨?_,Or.l ⟨?_,?_⟩⟩)
  all_goals first|(rw[HR.o.1];exact HR.o.2)|(rw[HR.o.1])|exact(Qv (p:=⟨w.1.size,1,none⟩) (Qv (p:=⟨w.1.size,0,none⟩) hB Ol _) Ol _).drew|exact Qv (p:=⟨w.1.size,1,none⟩) (Qv (p:=⟨w.1.size,0,none⟩) hB.drew Ol _) Ol _
 case pos=>
  have t0:((bLI Q).a !=0)=false:=by rw[h8.1,y8];rfl
  obtain⟨A,F,S,FQ,N,L,c⟩:=bUN h4 hc y8 hT;obtain⟨l6,l5,d1⟩:=bWL b2 z3.lt;have m3:=z3.nm;have g1:=z2.below ((Below.refl _ _).alloc Ol (Qf #[Qd U,.slice none 0 0,Qc 0,Qc 0] 129));have f1:=(Oo z2.f);clear z3 z2 h8;go_upto_region 9 with fail
  obtain⟨Z,g1,z6⟩:∃ Z,Rb O Z w (W4.alloc (Qf #[Qd U,.slice none 0 0,Qc 0,Qc 0] 129))/\Z[5]?=some (Qd U):=⟨_,g1,rfl⟩;have y9:∀ W,Rb O Z w W->W.cell? ⟨O,5,none⟩=some (Qd U):=fun W h=>Og h.p z6
  generalize W4.alloc (Qf #[Qd U,.slice none 0 0,Qc 0,Qc 0] 129)=W5 at*;have j8:w.1.size+1<=W4.1.size:=f1;generalize W4.1.size=X at*;clear z6 c0 c1 c2 c3 c4 c5 t0;go_upto_region 10 with(go_at_call 62;refine(bZB c.itn Oa Oa m3).mono ?_;rintro e W6 ⟨rfl,D,M,g2,m9⟩)
  rw[c.a,c.f]at g2;have b3:=g1.nx m3 m9 j8 g0;have h6:=c.same;have f8:=bSK (bLI Q).c N [] ⟨[],[],⟨[],0,0,[]⟩⟩;generalize (bNJ (bLI Q).c N [] ⟨[],[],⟨[],0,0,[]⟩⟩).s=s0 at*;obtain⟨m,n,rfl,_⟩:=eQ g2.fns
  have e7:∀ a7 s B E a2 W,NmW (w.1.size+1) X U a7 (bLI Q).c A F a2 s Y z D (.slice m F.length n) B E V W->W.cell? ⟨U,3,none⟩=some (.slice m F.length n):=fun a7 s B E a2 W h=>by
   rw[cell_of_row _ _ _ _ _ _ h.prog];rfl
  have l9:=c.few;have z9:bOY (bLI Q).L (bLI Q).L:=⟨rfl,fun i a h=>⟨a,h,bNM.refl a⟩⟩;have a5:Hid _:=g2;have a6:Hid _:=b3;clear m3 g1 m9 g2 b3;go_upto_region 11 with fail
  go_loopg [8] (F.length+1) (fun i3 v8 wr=>∃ (i:Nat) (l:List NQ) (b:Ns) (B E:Value) (lo:Int),v8= Qc (i:Nat)/\i+i3=F.length+1/\i<=F.length/\NmW (w.1.size+1) X U l (bLI Q).c A F 0 b Y z D (.slice m F.length n) B E V wr/\Rb O Z w wr/\bOY (bLI Q).L l/\0<=lo/\(b.d.length:Int)<=lo/\lo<=50000/\bT7 (bLI Q).L S FQ (F.drop i) (L.drop i) lo/\bXJ (L.drop i) b=bXJ L s0/\∀ x∈F.take i,∃ hi,hi<=lo/\bRT (bLI Q).L A F hi b.a l x)
  case atStart=>exact⟨0,_,_,_,_,0,rfl,Od,Od,a5.o,a6.o,z9,Oa,by rw[f8];simp,Oa,c.fnp,rfl,fun x q=>by simp at q⟩
  case round=>
   clear a5 a6;obtain⟨i,l,b,B,E,lo,rfl,e9,e8,j2,d9,y6,n4,n7,n0,r,k8,h7⟩:=hrel;have c5:=y9 _ d9;have g3:=e7 _ _ _ _ _ _ j2;have m4:Hid (Rb O Z w wr):=d9;have g5:Hid (NmW (w.1.size+1) X U l (bLI Q).c A F 0 b Y z D (.slice m F.length n) B E V wr):=j2;clear d9
   by_cases hi:i < F.length
   ·have t0:decide ((i:Int) < (F.length:Int))=true:=by simp;omega
    obtain⟨a2,rfl⟩:=Oj gk;have l7:0<=(i:Int)/\(i:Int) < (F.length:Int):=Oa
    have n8:IntKind.i64.wrap ((i:Int)+1)=(i:Int)+1:=IntWalk.i64_in _ Oa;obtain⟨x,q⟩:∃ x,F[i]?=some x:=⟨F[i],List.getElem?_eq_getElem _⟩;rw[bNL q]at r;rcases y7:L.drop i with _|⟨G,Gr⟩
    ·rw[y7]at r;exact r.elim
    rw[y7]at r k8;obtain⟨⟨i2,n1,hG⟩,z4⟩:=r
    have a9:L.drop (i+1)=Gr:=by
     have:=congrArg (List.drop 1) y7;simpa[List.drop_drop,Nat.add_comm]using this
    obtain⟨gf,l1,c7,l8⟩:=bLE j2.fns q;simp only[Value.slice.injEq]at c7;obtain⟨rfl,-,rfl⟩:=c7
    have n9:x < (bLI Q).L.length:=by
     obtain⟨C,_,_,_,_,h1,_⟩:=hG;exact h1.lt
    have HG:Hid _:=y7;clear j2 y7;go_wp2_with (go_at_call 63;refine(bZE c.itq c.fnq c.ia c.if_ Oa Oa Oa (lo:=i2) Oa hG y6 Oa g5.o).mono ?_;rintro e W7 ⟨rfl,k0,k1,k2,L2,i4,i5,k3,k4,k5,k6⟩)
    go_roundg a2
    case rel=>
     refine⟨i+1,L2,G b,i4,i5,x+1,Od,Oa,Oa,k3,m4.o.nx g5.o k4 j8 g0,y6.upd k5,Oa,k1,Oa,by rw[a9];exact z4,by rw[a9];exact k8,fun i6 hy=>?_⟩;rw[List.take_add_one,q]at hy;rcases List.mem_append.1 hy with hy|hy
     ·obtain⟨hi,h1,h2⟩:=h7 i6 hy;exact⟨hi,Oa,h2.keep k5 Oa k2⟩
     ·simp only[Option.toList_some,List.mem_singleton]at hy;subst hy;exact⟨_,Int.le_refl _,k6⟩
    case measure=>omega
   ·obtain rfl:i=F.length:=Oa
    have t0:decide ((F.length:Int) < (F.length:Int))=false:=Od
    rw[List.drop_length]at r
    have a8:L.drop F.length=[]:=by
     cases y7:L.drop F.length with
     |nil=>rfl
     |cons G Gr=>rw[y7]at r;exact r.elim
    rw[a8]at k8;rw[List.take_length]at h7;have h6:=h6 b k8;clear r a8 k8 hi e9 e8;go_upto_region 14 with fail
    obtain⟨d,j9⟩:∃ d,d=bL8 rF 2 S 0:=⟨_,rfl⟩
    have b5:∀ W,NmW (w.1.size+1) X U l (bLI Q).c A F 0 b Y z D (.slice m F.length n) B E V W->Calls prog 64 #[Qd X,.string ⟨#[109,97,105,110]⟩,Qc 2] W fun e w'=>e= .returned (Qc d)/\Below W.1.size W w':=fun W h=>by
     rw[j9];exact bUV rF 2 (c.itq.like y6) Oa (by rw[y6.len];omega) h
    have k9:=c.main;have f5:=c.if_ rF;rw[<-j9]at f5;rw[<-j9]at h6 k9;clear j9 j2;go_cut []from 67 to 74 (fun w'=>NmW (w.1.size+1) X U l (bLI Q).c A F d b Y z D (.slice m F.length n) B E V w'/\Rb O Z w w')
    case first=>
     have Nd:Hid (NmW (w.1.size+1) X U l (bLI Q).c A F 0 b Y z D (.slice m F.length n) B E V wr.drew):=g5.o.same (w':=wr.drew) (fun _ _=>rfl) Ol;have d3:=b5 _ Nd.o
     have e1:∀ t,Below wr.drew.1.size wr.drew t->(NmW (w.1.size+1) X U l (bLI Q).c A F 0 b Y z D (.slice m F.length n) B E V t/\Rb O Z w t)/\t.cell? ⟨U,4,none⟩=some (Qc 0)/\∀ o,t.frozen? ⟨U,o,none⟩=false:=fun t j4=>by
      have N8:=Nd.o.same j4.block j4.size;exact⟨⟨N8,(m4.o.below (Below.refl _ _).drew).below j4⟩,Og N8.prog rfl,fun o=>by simp[World.frozen?,N8.prog]⟩
     go_region_with (go_at_call 64;refine d3.mono ?_;rintro e t ⟨rfl,j4⟩;obtain⟨m1,l4,l3⟩:=e1 t j4;have i8:=y9 _ m1.2;have g6:Hid _:=m1;clear m1)
     all_goals go_wp2
     all_goals go_meet
     all_goals exact⟨(g6.o.1.setM d).1,g6.o.2.nx g6.o.1 (g6.o.1.setM d).2 j8 g0⟩
    case rest=>
     obtain⟨m2,m0⟩:=hcut;have g7:Hid _:=m2;have m5:Hid _:=m0;have a4:=y9 _ m0;have e2:wc.cell? ⟨U,4,none⟩=some (Qc d):=Og m2.prog rfl
     have hsz:0<=(s.size:Int)/\(s.size:Int)<=4000:=Oa
     clear m2 m0 c5 g3 b5 g5 m4;go_upto_if 82 with fail
     go_cut []from 75 to 86 (fun w'=>NmW (w.1.size+1) X U l (bLI Q).c A F d (if d < 0 then b.E 4 s.size else b) Y z D (.slice m F.length n) B E V w'/\Rb O Z w w')
     case first=>
      by_cases hm:d < 0
      ·have t1:decide (d < 0)=true:=by simpa using hm
       have HM:Hid (d < 0):=hm;go_wp2_with (go_at_call 65;refine(bMJ 4 s.size g7.o).mono ?_;rintro e i7 ⟨rfl,h1,h2⟩)
       go_meet;rw[if_pos HM.o];exact⟨h1,m5.o.nx g7.o h2 j8 g0⟩
      ·have t1:decide (d < 0)=false:=by simpa using hm
       have HM:Hid (¬d < 0):=hm;go_wp2;go_meet;rw[if_neg (Oi HM.o)];exact⟨g7.o,m5.o⟩
     case rest=>
      obtain⟨k7,h9⟩:=hcut;clear g7 m5 a4 e2;have a4:=y9 _ h9;obtain⟨⟨_,_,n2,n3,_⟩,_⟩:=k7.cells
      have z5:eZ s=((fO (rdT s) s.size).a,(fO (rdT s) s.size).e):=by
       unfold eZ;rw[Oh,Oh,Oh]
      rcases h6 with⟨b9,g9⟩|⟨j7,g8,c6⟩
      case inr=>
       rw[g8,c6]at z5;rw[g8]at j7;generalize (if d < 0 then b.E 4 s.size else b)=y at*;have t1:(y.a !=0)=true:=by simpa using j7
       have HR:Hid (eZ s=(y.a,y.e)/\y.a≠0):=⟨z5,j7⟩;have hB:=h9.b;obtain⟨q0,q1,z0⟩:=iV h9.f;clear z5 j7 g8 c6 k7 h9;go_upto_region 18 with fail
       go_region
       all_goals go_wp2
       all_goals obtain⟨x0,x1⟩:=dQ (w:=wc) (u0:= Qc y.a) (u1:= Qc y.e) q0 q1
       all_goals (refine bodyPost_ret (v:= .tuple #[.pointer none,.agg #[Qc y.a,Qc y.e]]) (by simp[results,results38,go_sem,x0,x1]) rfl ⟨?_,Or.l ⟨?_,?_⟩⟩)
       all_goals first|(rw[HR.o.1];exact HR.o.2)|(rw[HR.o.1])|exact(Qv (p:=⟨w.1.size,1,none⟩) (Qv (p:=⟨w.1.size,0,none⟩) hB Ol _) Ol _).drew|exact Qv (p:=⟨w.1.size,1,none⟩) (Qv (p:=⟨w.1.size,0,none⟩) hB.drew Ol _) Ol _
      case inl=>
       obtain⟨f4,z7⟩:=k9 b9;rw[Oh]at g9 k7 n2 n3;have t1:(b.a !=0)=false:=by rw[g9];rfl
       have d5:=k7.fd;have m7:Hid _:=h9;have k:Hid _:=k7;clear k7 h9;go_upto_region 20 with(go_at_call 66;refine(bX5 (by rw[y6.len];omega) Oa _ d5).mono ?_;rintro e c9 ⟨rfl,L1,hS,b4⟩)
       have d2:=cAL y6 b4 d1;rw[g9]at h7;have f2:L1.length<=100000:=by rw[b4.len,y6.len];omega
       have y5:=m7.o.fz d5.fd hS.fz;have i9:=y9 _ y5
       have j0:=cAP (cB5 d2 c.arr (fun x q=>(h7 x q).imp fun _ h=>h.2)) f2 Oa Oa Oa (fun x q=>by
        obtain⟨_,_,h⟩:=h7 x q;exact h.ok d2) c9 hS.fd
       have j6:Hid _:=hS;have m6:Hid _:=y5;clear hS y5 d5 a4;go_upto_region 21 with(go_at_call 67;refine j0.mono ?_;rintro e a3 ⟨rfl,j3,y3⟩)
       have y1:=m6.o.fd j6.o.fd y3;have l0:=y9 _ y1;obtain⟨q0,q1,z0⟩:=iV y1.f;obtain⟨mn,f6⟩:=Int.eq_ofNat_of_zero_le f4;subst f6;have n5:mn < F.length:=Oa
       obtain⟨xm,m8⟩:∃ x,F[mn]?=some x:=⟨F[mn],List.getElem?_eq_getElem _⟩;obtain⟨nm,f7,e6⟩:=c.fnq.at_ mn xm m8;obtain⟨bm,sm,_,f9,e5,_⟩:=d2 xm nm f7;obtain⟨xs,h5⟩:=j6.o.fd.d;have d4:=(Oo k.o.prog);have z8:=(y3.keep U (Nat.lt_of_lt_of_le d4 j6.o.fz.size) (bL5 h5 ((j6.o.fz.keep U d4 (bL5 k.o.d k.o.prog Ob) (bL5 k.o.nodes k.o.prog Ob)).t k.o.prog) Ob)).t ((j6.o.fz.keep U d4 (bL5 k.o.d k.o.prog Ob) (bL5 k.o.nodes k.o.prog Ob)).t k.o.prog);have hq:=QgW.of j3 z8 m8 e5
       have HF:Hid (eZ s=(0,(fO (rdT s) s.size).e)/\QgW U bm.g.length a3/\mI (rdT s) (qV (rdT s)).toNat=some bm.g.length/\Rb O Z w a3):=by
        refine⟨by rw[z5,b9],hq,?_,y1⟩;rw[z7,List.getD_eq_getElem?_getD,Int.toNat_natCast,e6,f9.g];rfl
       clear hq z5 y1 z7 j3 y3 z8 k9 h6;obtain⟨x0,x1⟩:=dQ (w:=a3) (u0:= Qc 0) (u1:= Qc 0) q0 q1;go_wp2;refine bodyPost_ret (v:= .tuple #[Qd U,.agg #[Qc 0,Qc 0]]) (by simp[results,results38,go_sem,x0,x1]) rfl ⟨Qv (p:=⟨w.1.size,1,none⟩) (Qv (p:=⟨w.1.size,0,none⟩) HF.o.2.2.2.b Ol _) Ol _,Or.r ⟨by rw[HF.o.1],U,_,rfl,HF.o.2.1.far HF.o.2.2.2.f (fun a1 u=>(Om u).t (Om u)),HF.o.2.2.1⟩⟩
theorem bSF(s:ByteArray)(w:World):Calls prog 38 #[.string s] w (bV7 s w):=by
 by_cases b:4000 < s.size
 ·exact bPX s w (c:=1) (p:=0) Ob (by unfold bNC;rw[if_pos b]) (by unfold eZ;rw[if_pos b])
 ·by_cases a:(dN s).a=0
  ·exact bTP s w Oa a
  ·exact bPX s w a ((bRY s Oa).1 a) (by unfold eZ;rw[if_neg b,if_pos a])
end
section
theorem PgW.stay{a:Nat}{s:ByteArray}{w w':World}(h:PgW a s w)(b:Below w.1.size w w'):PgW a s w':=h.b (fun k c=>b.block k c)
def bV9(s:ByteArray)(w:World):Ending->World->Prop:=fun e w'=>∃ v,e= .returned (.tuple #[v,.bool true])/\Below w.1.size w w'/\((eZ s).1=0/\(∃ b,v= Qd b)\/(eZ s).1≠0/\v= .pointer none)
theorem QgW.cells{U n:Nat}{w:World}(h:QgW U n w):∃ (d f l b e i m k:Nat) (a:Option Addr) (c:Nat),w.cell? ⟨U,0,none⟩=some (Qe d f l)/\w.cell? ⟨U,3,none⟩=some (Qe b e i)/\w.cell? ⟨U,4,none⟩=some (Qc (m:Int))/\m < e/\k < f/\w.cell? ⟨b,m,none⟩=some (Qc (k:Int))/\w.cell? ⟨d,k*11+6,none⟩=some (.slice a n c):=by
 obtain⟨d,f,l,b,e,i,m,k,x,D,B,a,c,y,z,o,p,q,r,t,u,v⟩:=h;exact⟨d,f,l,b,e,i,m,k,a,c,Og o rfl,Og o rfl,Og o rfl,p,q,Og r t,Og u v⟩
theorem QgW.stay{U n:Nat}{W W2:World}(h:QgW U n W)(x:Below W.1.size W W2):QgW U n W2:=by
 obtain⟨l,z,f,i,y,d,G,k,vI,D,B,a,c,xs,ys,m,p,q,r,t,u,v⟩:=h;have b:∀ {k:Nat} {o:Obj},W.1[k]?=some o->W2.1[k]?=some o:=fun e=>(x.block _ (Oo e)).t e;exact⟨l,z,f,i,y,d,G,k,vI,D,B,a,c,xs,ys,b m,p,q,b r,t,b u,v⟩
theorem bXP(s:ByteArray)(w:World)(ht:Tab w)(hm:s.size<=maxLen)(l:(eZ s).1≠0):Calls prog 15 #[.string s] w (bV9 s w):=by
 have h1:Calls prog 19 #[.string s] w fun e d=>Below w.1.size w d/\e= .returned (.tuple #[.pointer none,.agg #[Qc (eZ s).1,Qc (eZ s).2]]):=(aA6 s w ht hm).mono (by
  rintro e d ⟨r,⟨_,t⟩|⟨o,_⟩⟩
  ·exact⟨r,t⟩
  ·exact absurd o l)
 have h2:∀ W,Calls prog 38 #[.string s] W fun e d=>Below W.1.size W d/\e= .returned (.tuple #[.pointer none,.agg #[Qc (eZ s).1,Qc (eZ s).2]]):=fun W=>(bSF s W).mono (by
  rintro e d ⟨r,⟨_,t⟩|⟨o,_⟩⟩
  ·exact⟨r,t⟩
  ·exact absurd o l)
 have HR:Hid ((eZ s).1≠0):=l;clear l;generalize y:(eZ s).1=c at*;generalize (eZ s).2=p at*;have HC:Hid _:=y;clear y;go_enter func15,ntmps15
 go_upto_region 2 with(go_at_call 19;refine h1.mono ?_;rintro e n ⟨q,rfl⟩)
 obtain⟨f,i⟩:∃ f,f=n.alloc (Qf #[Qc c,Qc p] 37):=⟨_,rfl⟩;have u:f.1[n.1.size]?=some (Qf #[Qc c,Qc p] 37):=by rw[i];exact Qk _ _
 have h:Below w.1.size w f:=by rw[i];exact q.alloc q.size _
 rw[<-i];clear i q;go_upto_region 3 with(go_at_call 38;refine(h2 _).mono ?_;rintro e x ⟨k,rfl⟩)
 obtain⟨a,b⟩:∃ a,a=x.alloc (Qf #[Qc c,Qc p] 37):=⟨_,rfl⟩;have G:a.1[x.1.size]?=some (Qf #[Qc c,Qc p] 37):=by rw[b];exact Qk _ _
 have z:=(Oo u);have k4:a.1[n.1.size]?=some (Qf #[Qc c,Qc p] 37):=by rw[b];exact(bLL k z).t u
 have b4:Below w.1.size w a:=by rw[b];exact(h.t (k.mono h.size)).alloc (Qm h.size k.size) _
 rw[<-b];clear b k u h z;obtain⟨p0,p1,_⟩:=iV G;obtain⟨q0,q1,_⟩:=iV k4;clear G k4;go_wp2;refine bodyPost_ret (v:= .tuple #[.pointer none,.bool true]) (by simp[results,results15,go_sem]) rfl ?_;exact⟨_,rfl,b4,.r ⟨by rw[HC.o];exact HR.o,rfl⟩⟩
theorem bWK(s:ByteArray)(w:World)(ht:Tab w)(hm:s.size<=maxLen)(b:(eZ s).1=0):Calls prog 15 #[.string s] w (bV9 s w):=by
 have h1:Calls prog 19 #[.string s] w fun e i=>Below w.1.size w i/\∃ l,e= .returned (.tuple #[Qd l,.agg #[Qc 0,Qc 0]])/\PgW l s i:=(aA6 s w ht hm).mono (by
  rintro e i ⟨y,⟨z,_⟩|⟨_,h⟩⟩
  ·exact absurd b z
  ·exact⟨y,h⟩)
 have h2:∀ W,Calls prog 38 #[.string s] W fun e i=>Below W.1.size W i/\∃ U o,e= .returned (.tuple #[Qd U,.agg #[Qc 0,Qc 0]])/\QgW U o i/\mI (rdT s) (qV (rdT s)).toNat=some o:=fun W=>(bSF s W).mono (by
  rintro e i ⟨y,⟨z,_⟩|⟨_,h⟩⟩
  ·exact absurd b z
  ·exact⟨y,h⟩)
 have k0:Ws 8 (rdT s)/\(fO (rdT s) s.size).a=0:=by
  unfold eZ at b
  by_cases h4:4000 < s.size
  ·rw[if_pos h4]at b;cases b
  rw[if_neg h4]at b
  by_cases t:(dN s).a≠0
  ·rw[if_pos t]at b;exact absurd b t
  rw[if_neg t]at b
  by_cases u:(bP (aW s)).1.a≠0
  ·rw[if_pos u]at b;exact absurd b u
  rw[if_neg u]at b;exact⟨(bNX (mV Oa Oa) (lI s) (by simp[aW]) Oa).1,b⟩
 have HR:Hid ((eZ s).1=0):=b;have HW:Hid _:=k0;clear b k0;go_enter func15,ntmps15
 go_upto_region 2 with(go_at_call 19;refine h1.mono ?_;rintro e r ⟨x,l,rfl,hP⟩)
 obtain⟨k,m⟩:∃ k,k=r.alloc f0:=⟨_,rfl⟩;have G:k.1[r.1.size]?=some f0:=by rw[m];exact Qk _ _
 have p:Below w.1.size w k:=by rw[m];exact x.alloc x.size _
 have k9:PgW l s k:=by rw[m];exact hP.stay ((Below.refl _ _).alloc Ol _)
 rw[<-m];clear m x hP;go_upto_region 3 with(go_at_call 38;refine(h2 _).mono ?_;rintro e W3 ⟨n,U,o,rfl,hQ,h3⟩)
 obtain⟨d,f⟩:∃ d,d=W3.alloc f0:=⟨_,rfl⟩;have k3:d.1[W3.1.size]?=some f0:=by rw[f];exact Qk _ _
 have hl:=(Oo G);have k4:d.1[r.1.size]?=some f0:=by rw[f];exact(bLL n hl).t G
 have b4:Below w.1.size w d:=by rw[f];exact(p.t (n.mono p.size)).alloc (Qm p.size n.size) _
 have k8:PgW l s d:=by rw[f];exact(k9.stay n).stay ((Below.refl _ _).alloc Ol _)
 have k7:QgW U o d:=by rw[f];exact hQ.stay ((Below.refl _ _).alloc Ol _)
 rw[<-f];clear f n G p hl k9 hQ;obtain⟨p0,p1,_⟩:=iV k3;obtain⟨q0,q1,_⟩:=iV k4;clear k3 k4;obtain⟨n',k5,k1⟩:=bWW k8 HW.o.2 HW.o.1;rw[h3]at k5;cases k5;clear h3 k8;have HQ:Hid (QgW U o d):=k7;clear k7;go_upto_region 8 with(go_at_call 31;refine k1.mono ?_;rintro e W5 ⟨rfl,nn,rfl⟩)
 have q:=bM5 b4 nn;have k6:=QgW.stay HQ.o (bM5 (Below.refl _ d) nn);generalize d.drewN nn=W5 at*;obtain⟨gl,ll,cl,gf,lf,cf,a2,a1,a,c,x0,x3,x4,a6,a5,xf,xl⟩:=k6.cells;have a4:0<=(a2:Int)/\(a2:Int) < (lf:Int):=Oa
 have a3:0<=(a1:Int)/\(a1:Int) < (ll:Int):=Oa
 clear k6 p0 p1 q0 q1 b4 k1;go_quiet (fail)
 go_wp2;refine bodyPost_ret (v:= .tuple #[_,.bool true]) (by simp[results,results15,go_sem];rfl) rfl ?_;exact⟨_,rfl,by first|exact(bM5 q _).alloc q.size _|exact q.alloc q.size _,.l ⟨HR.o,_,rfl⟩⟩
theorem bR8(s:ByteArray)(w:World)(c:Tab w)(a:s.size<=maxLen):Calls prog 15 #[.string s] w (bV9 s w):=by
 by_cases b:(eZ s).1=0
 ·exact bWK s w c a b
 ·exact bXP s w c a b
end
end Go.Proofs.YtikffmloeifkpaaGreatDoor
