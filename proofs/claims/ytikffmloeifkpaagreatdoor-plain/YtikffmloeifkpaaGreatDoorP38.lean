/- Contracts. -/
import Derived.Test.YtikffmloeifkpaaGreatDoorP37
import Derived.Test.YtikffmloeifkpaaGreatDoorP23
import Derived.Test.YtikffmloeifkpaaGreatDoorP33
import Derived.Test.YtikffmloeifkpaaGreatDoorP36
import Derived.Test.YtikffmloeifkpaaGreatDoorP24
set_option maxHeartbeats 16000000
set_option maxRecDepth 100000
namespace Go.Proofs.YtikffmloeifkpaaGreatDoor
open Go.RowKit Go.Lib Go.Deep Go.Maps Go.ChangeMaps Go.MapKept
variable {w0:World} {H pb lb kb vb xb nw nw' c c':Nat} {vS:Value} {K K':Kn} {S:Sl} {F F':Fl} {alive:Bool} {vs:Vr} {u w w':World} {m:Bool} {al fl:List Tr} {lens:Nat->Int}
def aQW:Array Value:=#[.bool false,.bool false,.bool false,.bool false,.bool false,.bool false,.bool false,.bool false,.bool false,.bool false,.bool false,.bool false]
theorem aKU(w:World):eG w.heap.size (fun _=>false) (w.alloc (.cells aQW 458)):=by
 refine⟨aQW,heap_alloc_new w _,fun i hi=>?_⟩;have:i=0\/i=1\/i=2\/i=3\/i=4\/i=5\/i=6\/i=7\/i=8\/i=9\/i=10\/i=11:=by omega
 rcases this with rfl|rfl|rfl|rfl|rfl|rfl|rfl|rfl|rfl|rfl|rfl|rfl<;>rfl
theorem eG.fu{b:Nat}{g:Nat->Bool}(h:eG b g w)(hx:Fu H w w'):eG b g w':=by
 obtain⟨cs,hc,h1⟩:=h;exact⟨cs,hx.keep hc ⟨by decide,by decide,by decide⟩,h1⟩
structure aRG(w0:World)(pb lb kb:Nat)(vS:Value)(S:Sl)(g:Nat->Bool)(cc:St->Fl->St × St × Fl)(f:St->Fl->St × Fl)(p:Int)(nw C D:Nat)(K:Kn)(T:St × Fl)(mb:Nat)(w:World)(n round nw1 c1:Nat)(K1:Kn)(F1:Fl)(wr:World):Prop where
 res:T=whA g cc f n round (K1 p) F1
 sk:SkW w0 pb lb kb vS S F1 nw1 c1 K1 wr
 ge:nw<=nw1
 cs:c1+n*D<=C
 oth:∀ q:Int,q≠p->q<=(nw:Int)->K1 q=K q
 fu:Fu w0.heap.size w wr
 bw:eG mb g wr
 rd:n+round=5/\1<=n
 full:n=1->∀ vs,K1 p=some vs->∀ i,g i=true->vs i=aX
theorem aPB{b o:Nat}{a:Nd}{l q:Tr}(ht:a.tag=12)(hi:IsT w0 (.node b o a l q))(hl:Ws 1 l/\GCd 269 w0 pb vS S al fl aC l)(hq:Ws 4 q/\GSk 136 w0 pb vS S al fl aC q)(hm:GM w0 q):GSk 271 w0 pb vS S al fl cB (.node b o a l q):=by
 intro lb kb F nw c K p w hp hc h
 have z3:mu (.node b o a l q)=4*(2+mu l+mu q):=by
  conv=>lhs;unfold mu
  rw[if_pos ht]
 obtain⟨y9,j6⟩:=hl;obtain⟨y8,j5⟩:=hq;obtain⟨ul,pl,z2⟩:=y9.val (.inr (.inl rfl));obtain⟨aq,cpq,k8⟩:=y8.lstval (.inr (.inl rfl))
 obtain⟨m0,m1⟩:w0.cell? ⟨b,0,none⟩=some (aC l)/\w0.cell? ⟨b,1,none⟩=some (aC q):=by
  obtain⟨cs,y3,h0,h1⟩:=aI hi.2.2 (n:=12) ht;exact⟨by rw[cell_of_row _ _ _ _ _ _ y3];exact h0,by rw[cell_of_row _ _ _ _ _ _ y3];exact h1⟩
 rw[z2]at m0;rw[k8]at m1
 have k1:∀ F,(stA (aA al) fl q (cdA (aA al) fl l none F).1 (cdA (aA al) fl l none F).2.2).1=none:=fun F=>by
  rw[(vG l F).1];exact aM2 _ q _ (Nat.le_refl _)
 have k5:∀ s G,OkS s->OkS (stA (aA al) fl q s G).1:=fun s G hs=>aFO _ q (Nat.le_refl _) 4 s G (by omega) y8 hs;have k6:∀ s G,OkS s->OkS (cdA (aA al) fl l s G).1:=fun s G hs=>(wO l s G y9 hs).1;rw[aUV ht,z3];rw[z3]at hc
 have d4:Hid (∀ (F1:Fl) (nw1 c1:Nat) (K1:Kn) (r:Int) (W:World) (s:St),K1 r=s->0<=r/\r<=(nw1:Int)->c1+2*mu l<=4611686018427387904->SkW w0 pb lb kb vS S F1 nw1 c1 K1 W->Calls Tryz.prog 269 #[.pointer (some ⟨lb,0,none⟩),.int .i64 r,.iface ul (.pointer (some pl))] W (aA8 w0 pb lb kb vS S r nw1 (c1+2*mu l) K1 (cdA (aA al) fl l s F1) W)):=fun F1 nw1 c1 K1 r W s hs h1 h2 h3=>by
  have:=j6 lb kb F1 nw1 c1 K1 r W h1 h2 h3;rw[z2,hs]at this;exact this
 have d3:Hid (∀ (F1:Fl) (nw1 c1:Nat) (K1:Kn) (r:Int) (W:World) (s:St),K1 r=s->0<=r/\r<=(nw1:Int)->c1+2*mu q<=4611686018427387904->SkW w0 pb lb kb vS S F1 nw1 c1 K1 W->Calls Tryz.prog 136 #[.pointer (some ⟨lb,0,none⟩),.int .i64 r,.slice aq (aD q) cpq] W (pO w0 pb lb kb vS S r nw1 (c1+2*mu q) K1 (stA (aA al) fl q s F1) W)):=fun F1 nw1 c1 K1 r W s hs h1 h2 h3=>by
  have:=j5 lb kb F1 nw1 c1 K1 r W h1 h2 h3;rw[k8,hs]at this;exact this
 show Calls Tryz.prog 271 #[.pointer (some ⟨lb,0,none⟩),.int .i64 p,.pointer (some ⟨b,0,none⟩)] w _;obtain⟨o1,y0⟩:∃ o1:Obj,o1= .cells aQW 458:=⟨_,rfl⟩;obtain⟨kA,bA,zA⟩:=qN w o1;have g0:eG w.heap.size (fun _=>false) (w.alloc o1):=by rw[y0];exact aKU w
 have SA:=h.new bA;have y4:=hm w.heap.size _ (w.alloc o1) h.size SA.low g0;rw[k8]at y4;have d1:=aE SA.low m1;have HS:Hid (SkW w0 pb lb kb vS S F nw c K w):=h;have k4:Hid (Below w.heap.size w (w.alloc o1)):=bA;have m3:Hid _:=m0;have m2:Hid _:=m1;have d5:Hid _:=k1;have g7:Hid _:=k5;have g8:Hid _:=k6;have hfew:=h.few;generalize mu l=ml at*;generalize mu q=mq at*;obtain⟨g,hg⟩:∃ g,g=dR q:=⟨_,rfl⟩;rw[<-hg]at y4 ⊢;obtain⟨cc,y5⟩:∃ cc,cc=cdA (aA al) fl l:=⟨_,rfl⟩;obtain⟨f,y2⟩:∃ f,f=stA (aA al) fl q:=⟨_,rfl⟩;rw[<-y5,<-y2];rw[<-y5,<-y2]at d5;rw[<-y5]at d4 g8;rw[<-y2]at d3 g7;obtain⟨T,hT⟩:∃ T,T=whA g cc f 4 1 (K p) F:=⟨_,rfl⟩;rw[<-hT];have HT:Hid (T=whA g cc f 4 1 (K p) F):=hT;unfold aQW at y0;clear k1 k5 k6 j6 j5 z2 k8 y9 y8 hm hi ht z3 m0 m1 h SA kA bA g0 hg y5 y2 hT;go_enter Tryz.func271,Tryz.ntmps271
 go_upto_region 1 with fail
 rw[<-y0];clear y0;generalize w.alloc o1=wA at*;go_wp2_with fail
 refine y4.mono ?_;rintro e W1 ⟨rfl,g3,x1⟩
 have bW:Below w.heap.size w W1:=by
  refine⟨x1.os.trans k4.out.os,x1.tape.trans k4.out.tape,x1.output.trans k4.out.output,by have:=x1.size;have:=k4.out.size;omega,fun k hk=>?_⟩;exact(x1.oth k (by omega) (by omega)).trans (k4.out.block k hk)
 have L0:aRG w0 pb lb kb vS S g cc f p nw (c+4*(2*(2+ml+mq))) (2*(2+ml+mq)) K T w.heap.size w 4 1 nw c K F W1:=
  ⟨HT.out,HS.out.new bW,Nat.le_refl _,Nat.le_refl _,fun _ _ _=>rfl,(Fs.of bW HS.out.size false).both,g3.eq fun i _=>(by simp),⟨rfl,by omega⟩,fun e=>by omega⟩
 clear g3 x1 bW y4 d1 k4 HS HT zA;obtain⟨DD,d7⟩:∃ DD,DD=2*(2+ml+mq):=⟨_,rfl⟩;rw[<-d7]at L0;go_wp2_with fail
 go_loopg [7] 4 (fun m v wr=>∃ n round nw1 c1 K1 F1,v= .int .i64 (round:Nat)/\n<=m/\aRG w0 pb lb kb vS S g cc f p nw (c+4*DD) DD K T w.heap.size w n round nw1 c1 K1 F1 wr)
 case atStart=>exact⟨4,1,nw,c,K,F,rfl,Nat.le_refl _,L0⟩
 case round=>
  clear L0;obtain⟨n,round,nw1,c1,K1,F1,rfl,hm,LP⟩:=hrel;obtain⟨hrd,hn1⟩:=LP.rd;obtain⟨k,rfl⟩:∃ k,n=k+1:=⟨n - 1,by omega⟩;have hge:=LP.ge;have hf1:=LP.sk.few;have y3:=LP.cs;rw[Nat.succ_mul]at y3;have hkd:0<=k*DD:=Nat.zero_le _;have k0:=LP.res;rw[aD0]at k0;have h4:k=0->(wst g (K1 p) (f (cc (K1 p) F1).1 (cc (K1 p) F1).2.2).1).2=false:=fun e=>aL8 (LP.full (by omega)) (g7.out _ _ (g8.out _ _ (LP.sk.ok p)));have j9:K1 p=none->(f (cc (K1 p) F1).1 (cc (K1 p) F1).2.2).1=none:=fun e=>by rw[e];exact d5.out F1
  have j7:=aNV LP.sk.lk p (by omega) (by omega);have HX:Hid (cc (K1 p) F1=cc (K1 p) F1):=rfl;generalize hx:cc (K1 p) F1=x at*;generalize hy:f x.1 x.2.2=y at*;have d9:Hid (cc (K1 p) F1=x):=hx;have d8:Hid (f x.1 x.2.2=y):=hy;obtain⟨z,hz⟩:∃ z,wst g (K1 p) y.1=z:=⟨_,rfl⟩;rw[hz]at k0 h4;have HZ:Hid (wst g (K1 p) y.1=z):=hz;have HD:Hid (K1 p=none->y.1=none):=j9;have m4:Hid (k=0->z.2=false):=h4;have g6:Hid _:=k0;have h9:Hid _:=LP;have hrdI:0<=(round:Int)/\(round:Int)<=4:=by omega
  clear LP hx hy hz k0 h4 j9 HX;go_wp2_with fail
  refine j7.mono ?_;rintro e W2 ⟨rfl,h2,x2⟩;have S2:=h9.out.sk.step x2 h2 (eW h9.out.sk.ok (h9.out.sk.ok p) _);have z5:=d4.out F1 (nw1+1) (c1+2) _ ((nw1:Int)+1) W2 (K1 p) (bU _ _ _) (by omega) (by omega) S2;rw[d9.out]at z5;have d0:=aE S2.low m3.out;have U2:Hid (Fu w0.heap.size wr W2):=x2.both;clear S2 h2 x2 j7;go_wp2_with fail
  refine z5.mono ?_;rintro e W3 ⟨r2,nw3,K3,rfl,hr1,hr2,S3,e1,e2,e3,U3⟩;have z4:=d3.out x.2.2 nw3 (c1+2+2*ml) K3 ((nw1:Int)+1) W3 x.1 e1 (by omega) (by have:=S3.few;omega) S3;rw[d8.out]at z4;have d1:=aE S3.low m2.out;have hf3:=S3.few;have U3':Hid (Fu w0.heap.size wr W3):=U2.out.trans U3;have g4:Hid _:=e2;have z6:Hid _:=e3;clear S3 e1 e2 e3 U3 U2 z5 d0;go_wp2_with fail
  refine z4.mono ?_;rintro e W4 ⟨rfl,nw4,K4,j0,S4,g1,g2,U4⟩;have hf4:=S4.few;have k9:K4 p=K1 p:=by rw[g2 p (by omega) (by omega),z6.out p (by omega) (by omega),cE (by omega)]
  have d6:Hid (K4 (r2:Int)=x.2.1):=by rw[Hid,g2 (r2:Int) (by omega) (by omega)];exact g4.out
  have U4':Hid (Fu w0.heap.size wr W4):=U3'.out.trans U4;have z0:=aIH S4.lk p ((nw1:Int)+1) (by omega) (by omega) (by omega) (by rw[k9,g1];exact HD.out) (h9.out.bw.fu U4'.out);rw[k9,g1,HZ.out]at z0
  have z8:Hid (OkS z.1):=by
   rw[Hid,<-HZ.out,<-k9,<-g1];exact aS0 (S4.ok p) (S4.ok _)
  have g5:Hid _:=S4
  have d2:Hid (∀ q:Int,q≠p->q<=(nw:Int)->K4 q=K q):=fun q h1 h2=>by
   rw[g2 q (by omega) (by omega),z6.out q (by omega) (by omega),cE (by omega)];exact h9.out.oth q h1 h2
  clear S4 g1 g2 U4 z4 d1 k9 U3' g4 z6;go_wp2_with fail
  refine z0.mono ?_;rintro e W5 ⟨rfl,h5,x5⟩;have S5:=g5.out.step x5 h5 (eW g5.out.ok z8.out p);have y1:=wG S5.lk ((nw1:Int)+1) (by omega);have y7:Hid _:=S5;have U5:Hid (Fu w0.heap.size wr W5):=U4'.out.trans x5.both;clear S5 h5 x5 z0;obtain⟨z1,ch⟩:=z;dsimp only at*;cases ch
  ·have y6:Hid (T=(x.2.1,y.2)):=by
    have:=g6.out;rw[if_neg (by decide)]at this;exact this
   go_wp2_with fail
   refine y1.mono ?_;rintro e W6 ⟨rfl,h6,x6⟩;have S6:=y7.out.step x6 h6 (eW y7.out.ok OkS.none _);have k3:=wG S6.lk p (by omega);have k7:Hid _:=S6;have U6:Hid (Fu w0.heap.size wr W6):=U5.out.trans x6.both;clear S6 h6 x6 y1;go_wp2_with fail
   refine k3.mono ?_;rintro e W7 ⟨rfl,h7,x7⟩;have S7:=k7.out.step x7 h7 (eW k7.out.ok OkS.none p);have hj:=aC4 S7.lk p (r2:Int) (by omega) (by omega) (by omega) (by omega);have k2:Hid _:=S7;have U7:Hid (Fu w0.heap.size wr W7):=U6.out.trans x7.both;clear S7 h7 x7 k3;go_wp2_with fail
   refine hj.mono ?_;rintro e W8 ⟨rfl,h8,x8⟩
   have FIN:Hid (pO w0 pb lb kb vS S p nw (c+2*(4*(2+ml+mq))) K T w (.returned (.tuple #[])) W8):=by
    have S8:=k2.out.step x8 h8 (eW (eW k2.out.ok OkS.none _) (nP (k2.out.ok p) (k2.out.ok _)) p);rw[y6.out];refine⟨rfl,nw4,_,by omega,S8.mono (by omega) hc,?_,fun q h1 h2=>?_,h9.out.fu.trans (U7.out.trans x8.both)⟩
    ·rw[bU,bU,cE (by omega),cE (by omega),cE (by omega),d6.out];cases x.2.1<;>rfl
    ·rw[cE h1,cE (by omega),cE h1,cE (by omega),cE h1];exact d2.out q h1 h2
   clear h8 x8 hj;go_wp2;go_end0
   exact FIN.out
  ·have y6:Hid (T=whA g cc f k (round+1) (if round=3 then z1.map (gL g)else z1) y.2):=by
    have:=g6.out;rw[if_pos rfl]at this;exact this
   have j4:1<=k:=by
    rcases Nat.eq_zero_or_pos k with h|h
    ·have:=m4.out h;cases this
    ·exact h
   obtain⟨vz,z9⟩:∃ vs,z1=some vs:=by
    have:=aL7 (g:=g) (s:=K1 p) (q:=y.1) (by rw[HZ.out]);rw[HZ.out]at this;exact this
   have z7:Hid (z1=some vz):=z9;clear z9;obtain⟨m,rfl⟩:∃ m,gk=m+1:=⟨gk - 1,by omega⟩;go_wp2_with fail
   refine y1.mono ?_;rintro e W6 ⟨rfl,h6,x6⟩;have S6:=y7.out.step x6 h6 (eW y7.out.ok OkS.none _);have k3:=wG S6.lk (r2:Int) (by omega);have k7:Hid _:=S6;have U6:Hid (Fu w0.heap.size wr W6):=U5.out.trans x6.both;clear S6 h6 x6 y1;go_wp2_with fail
   refine k3.mono ?_;rintro e W7 ⟨rfl,h7,x7⟩;have S7:=k7.out.step x7 h7 (eW k7.out.ok OkS.none (r2:Int));have k2:Hid _:=S7;have U7:Hid (Fu w0.heap.size wr W7):=U6.out.trans x7.both;have e7:bI (bI (bI K4 p z1) ((nw1:Int)+1) none) (r2:Int) none p=z1:=by rw[cE (by omega),cE (by omega),bU]
   have HE7:Hid _:=e7
   have g9:Hid (∀ q:Int,q≠p->q<=(nw:Int)->bI (bI (bI K4 p z1) ((nw1:Int)+1) none) (r2:Int) none q=K q):=fun q h1 h2=>by
    rw[cE (by omega),cE (by omega),cE h1];exact d2.out q h1 h2
   by_cases j3:round=3
   ·have j8:=aNW S7.lk p (by omega) (by rw[e7];exact z7.out) (h9.out.bw.fu U7.out);have j2:(round:Int)=3:=by omega
    clear S7 h7 x7 k3 e7;go_wp2_with fail
    refine j8.mono ?_;rintro e W8 ⟨rfl,h8,x8⟩
    have fin:∃ n round' nw1 c1 K1 F1,Value.int .i64 ((round:Int)+1)= .int .i64 ((round':Nat):Int)/\n<=m/\aRG w0 pb lb kb vS S g cc f p nw (c+4*DD) DD K T w.heap.size w n round' nw1 c1 K1 F1 W8:=by
     refine⟨k,round+1,nw4,c1+2+2*ml+2*mq,bI (bI (bI (bI K4 p z1) ((nw1:Int)+1) none) (r2:Int) none) p (some (gL g vz)),y.2,by simp,by omega,?_,k2.out.step x8 h8 (eW k2.out.ok (aKC (by rw[<-z7.out];exact z8.out)) p),by omega,by omega,fun q h1 h2=>?_,h9.out.fu.trans (U7.out.trans x8.both),h9.out.bw.fu (U7.out.trans x8.both),⟨by omega,j4⟩,fun _ vs j1 i hi=>?_⟩
     ·rw[bU,y6.out,if_pos j3,z7.out];rfl
     ·rw[cE h1];exact g9.out q h1 h2
     ·rw[bU]at j1;cases j1;unfold gL;rw[if_pos hi]
    rw[j2]at fin;clear h8 x8 j8;go_wp2;go_roundg m
    case rel=>exact fin
    case measure=>omega
   ·have j2: ¬(round:Int)=3:=by omega
    have fin:∃ n round' nw1 c1 K1 F1,Value.int .i64 ((round:Int)+1)= .int .i64 ((round':Nat):Int)/\n<=m/\aRG w0 pb lb kb vS S g cc f p nw (c+4*DD) DD K T w.heap.size w n round' nw1 c1 K1 F1 W7:=by
     refine⟨k,round+1,nw4,c1+2+2*ml+2*mq,bI (bI (bI K4 p z1) ((nw1:Int)+1) none) (r2:Int) none,y.2,by simp,by omega,?_,S7,by omega,by omega,g9.out,h9.out.fu.trans U7.out,h9.out.bw.fu U7.out,⟨by omega,j4⟩,fun e=>by omega⟩;rw[e7,y6.out,if_neg j3]
    clear S7 h7 x7 k3 e7;go_wp2;go_roundg m
    case rel=>exact fin
    case measure=>omega
end Go.Proofs.YtikffmloeifkpaaGreatDoor
namespace Go.Proofs.YtikffmloeifkpaaGreatDoor
open Go.RowKit Go.Lib Go.Deep Go.Maps Go.ChangeMaps Go.MapKept
variable {w0:World} {H pb lb kb vb xb nw nw' c c':Nat} {vS:Value} {K K':Kn} {S:Sl} {F F':Fl} {alive:Bool} {vs:Vr} {u w w':World} {m:Bool} {al fl:List Tr} {lens:Nat->Int} {par:Nat->Option Nat} {na:Nat}
def aH0(S:Sl)(t:Tr):Prop:=∀ k∈bE t,∃ s:Nat,k=s/\s < S.length
theorem aH0.parts{b o:Nat}{a:Nd}{l q:Tr}(h:aH0 S (.node b o a l q)):aH0 S l/\aH0 S q/\(dM a=true->∃ s:Nat,a.site=s/\s < S.length):=
 ⟨fun k hk=>h k (fR hk),fun k hk=>h k (gK hk),fun e=>h _ (pG e)⟩
theorem aOX(hp:PgX pb al fl w0){t:Tr}(h:Ws 21 t)(hi:IsT w0 t)(hv:Vd par na 12 t):GV 260 w0 pb vS S al fl aC t:=by
 have h0:=aBJ h;cases t with
 |nil=>exact absurd h (by unfold Ws bK;omega)
 |node b o a l q=>
  obtain⟨_,x,y,h2,_⟩:=h.parts
  have h1:a.tag<=1:=by
   by_cases h1:a.tag<=1
   ·exact h1
   ·exfalso;simp[sig,h1]at h2
  exact aO2 hp h0 hi (fun k=>by have:=hv.2.2.1 (.inl k);omega) (fun k=>by omega) (fun k=>by omega) (fun k=>by omega) (fun k=>by omega)
theorem aPD(hp:PgX pb al fl w0):∀ (L:Tr),Ws 15 L->IsT w0 L->Vd par na 12 L->fE (fun x=>Ws 20 x/\G2 w0 pb vS S al fl x) L:=by
 intro L
 induction L with
 |nil=>intro _ _ _;trivial
 |node b o a e r _ ih=>
  intro hw hi hv;obtain⟨h3,h1,h2⟩:=aY (.inr (.inr (.inl rfl))) hw;refine⟨h3,⟨h1,?_⟩,ih h2 hi.2.1 hv.2.1⟩;have h1:Ws 20 e:=h1;cases e with
  |nil=>exact absurd h1 (by unfold Ws bK;omega)
  |node b o a l q=>
   obtain⟨ha,x,y,h0,hl,hq⟩:=h1.parts
   have h7:a.tag=7:=by
    by_cases h:a.tag=7
    ·exact h
    ·exfalso;simp[sig,h]at h0
   rw[h7]at h0;cases h0;exact⟨aOX hp hl hi.1.1 hv.1.1,aOX hp hq hi.1.2.1 hv.1.2.1⟩
theorem xW(hp:PgX pb al fl w0){p:Tr}(hw:Ws 5 p)(hi:IsT w0 p)(hv:Vd par na 12 p):fE (fun x=>Ws 20 x/\G2 w0 pb vS S al fl x) (aB p):=by
 refine aPD (par:=par) (na:=na) hp _ (hw.elems (.inr (.inr (.inl rfl)))) ?_ ?_
 ·cases p with
  |nil=>trivial
  |node b o a l r=>exact hi.1
 ·cases p with
  |nil=>trivial
  |node b o a l r=>exact hv.1
theorem wT{e:Tr}(h:IsT w0 e):IsT w0 (aU e)/\IsT w0 (bG e):=by
 cases e with
 |nil=>exact⟨trivial,trivial⟩
 |node b o a l r=>
  cases r with
  |nil=>exact⟨trivial,trivial⟩
  |node x y z p q=>exact⟨h.2.1.1,h.2.1.2.1⟩
theorem aQ7(hp:PgX pb al fl w0)(hF:aCS par na al fl):∀ (n:Nat) (t:Tr),szT t<=n->Vd par na 12 t->IsT w0 t->aH0 S t->
 (Ws 0 t->GV 260 w0 pb vS S al fl aC t)/\(Ws 1 t->GCd 269 w0 pb vS S al fl aC t)/\(Ws 2 t->GSk 207 w0 pb vS S al fl aC t/\GMs w0 t)/\(Ws 4 t->GSk 136 w0 pb vS S al fl aC t/\GM w0 t)/\
 (Ws 13 t->fE (fun e=>Ws 0 e/\GV 260 w0 pb vS S al fl aC e) t)/\(Ws 14 t->fE (fun e=>Ws 2 e/\GSk 207 w0 pb vS S al fl aC e) t/\fE (fun e=>Ws 2 e/\GMs w0 e) t):=by
 intro n
 induction n with
 |zero=>intro t h;cases t<;>simp[szT]at h
 |succ n ih=>
  intro t k3 hv hi k4;cases t with
  |nil=>
   refine⟨fun h=>absurd h (by unfold Ws bK;omega),fun h=>absurd h (by unfold Ws bK;omega),fun h=>absurd h (by unfold Ws bK;omega),fun h=>?_,fun _=>trivial,fun _=>⟨trivial,trivial⟩⟩;exact⟨aI7 h trivial trivial,aE7 h trivial trivial⟩
  |node b o a l r=>
   have hl:szT l<=n/\szT r<=n:=by simp only[szT]at k3;omega
   obtain⟨sl,sr,so⟩:=k4.parts;have hv0:=hv;obtain⟨vl,vr,v1,v2,v3⟩:=hv;have IL:=ih l hl.1 vl hi.1 sl;have IR:=ih r hl.2 vr hi.2.1 sr
   have elemsOf:Ws 3 l->fE (fun e=>Ws 0 e/\GV 260 w0 pb vS S al fl aC e) (aB l):=by
    intro hw;rcases hw.lst (.inl rfl)with rfl|⟨b2,o2,a2,l2,rfl,k5,h8⟩
    ·trivial
    ·have h9:szT l2<=n:=by have:=hl.1;simp only[szT]at this;omega
     exact(ih l2 h9 vl.1 hi.1.1 sl.parts.1).2.2.2.2.1 h8
   have ar:=hF.arrs
   have own2:a.tag=2\/a.tag=10->∃ s:Nat,a.site=s/\s < S.length:=fun h=>so (by
    unfold dM;rcases h with h|h<;>simp[h])
   have arr2:a.tag=2\/a.tag=10->∃ k:Nat,a.which=k/\k < al.length:=fun h=>by
    have:=v2 h;exact⟨a.which.toNat,by omega,by omega⟩
   refine⟨fun hw=>?_,fun hw=>?_,fun hw=>?_,fun hw=>?_,fun hw=>?_,fun hw=>?_⟩
   ·obtain⟨h4,x,y,h0,h1,h2⟩:=hw.parts;refine aO2 hp hw hi (fun hk=>by have:=v1 (.inl hk);omega) (fun hk=>?_) (fun hk=>⟨arr2 (.inl hk),own2 (.inl hk)⟩) (fun hk=>?_) (fun hk=>?_)
    ·have:x=0:=by rcases hk with h|h|h<;>rw[h]at h0<;>cases h0<;>rfl
     subst this;exact⟨h1,IL.1 h1⟩
    ·have:x=3:=by rw[hk]at h0;cases h0;rfl
     subst this;obtain⟨k1,k2⟩:=v3 hk;obtain⟨p4,e0,he⟩:=hF.pars _ _ k2;obtain⟨f1,f2,f3,f4⟩:=hF.fns e0 (List.mem_of_getElem? he);refine aTE hp hk hi h1 (j:=a.which.toNat) (by omega) he p4 (elemsOf h1) f1 (xW hp f1 (wT (hp.fns e0 (List.mem_of_getElem? he))).1 f3) ?_
     by_cases hs:a.site= -1
     ·exact .inl hs
     ·exact .inr (so (by unfold dM;simp[hk,hs]))
    ·rw[hk]at h0;cases h0
     exact aOU hk (h4.op6 hk) hi ⟨h1,IL.1 h1⟩ ⟨h2,IR.1 h2⟩ (fun h30=>so (by
      unfold dM;have e:a.op≠27/\a.op≠28/\a.op≠29:=by omega
      simp[hk,e]))
   ·obtain⟨h4,x,y,h0,h1,h2⟩:=hw.parts;refine aT8 hw (fun hk=>?_) (fun hk=>?_)
    ·rw[hk]at h0;cases h0;exact aKM hk (h4.op7 hk) hi vl vr ⟨h1,IL.1 h1⟩ ⟨h2,IR.1 h2⟩
    ·rw[hk]at h0;cases h0;exact aQM hk (h4.op8 hk) hi ⟨h1,IL.2.1 h1⟩ ⟨h2,IR.2.1 h2⟩
   ·obtain⟨h4,x,y,h0,h1,h2⟩:=hw.parts;obtain⟨t1,t2⟩:=jR hw;have tags:a.tag=9\/a.tag=10\/a.tag=11\/a.tag=12\/a.tag=13\/a.tag=14:=by omega
    rcases tags with hk|hk|hk|hk|hk|hk
    ·rw[hk]at h0;cases h0;have hb:=v1 (.inr hk);exact⟨aPR hk (by omega) hi ⟨h1,IL.1 h1⟩,fun _=>by omega,fun h=>by omega,fun h=>by omega⟩
    ·rw[hk]at h0;cases h0;obtain⟨k,e1,e2⟩:=arr2 (.inr hk);obtain⟨s,e3,e4⟩:=own2 (.inr hk);exact⟨aLS hp hk hi e1 e2 e3 e4 ⟨h1,IL.1 h1⟩ ⟨h2,IR.1 h2⟩,fun h=>by omega,fun h=>by omega,fun h=>by omega⟩
    ·rw[hk]at h0;cases h0;cases r with
     |nil=>exact absurd h2 (by unfold Ws bK;omega)
     |node x y z p q=>
      obtain⟨_,sp,sq,k0,h7,h6⟩:=h2.parts
      have hz:z.tag=18:=by
       by_cases h:z.tag=18
       ·exact h
       ·exfalso;simp[sig,h]at k0
      rw[hz]at k0;cases k0;have hs:szT p<=n/\szT q<=n:=by have:=hl.2;simp only[szT]at this;omega
      have IP:=(ih p hs.1 vr.1 hi.2.1.1 sr.parts.1).2.2.2.1 h7;have IQ:=(ih q hs.2 vr.2.1 hi.2.1.2.1 sr.parts.2.1).2.2.2.1 h6;exact⟨aLR hk hz hi ⟨h1,IL.2.1 h1⟩ ⟨h7,IP.1⟩ ⟨h6,IQ.1⟩,fun h=>by omega,fun _=>⟨x,y,z,p,q,rfl,hz,h7,h6,IP.2,IQ.2⟩,fun h=>by omega⟩
    ·rw[hk]at h0;cases h0;have IQ:=IR.2.2.2.1 h2;exact⟨aLQ hk (aPB hk hi ⟨h1,IL.2.1 h1⟩ ⟨h2,IQ.1⟩ IQ.2),fun h=>by omega,fun h=>by omega,fun _=>⟨h2,IQ.2⟩⟩
    ·rw[hk]at h0;cases h0;exact⟨aLP hk hi ⟨h1,IL.1 h1⟩,fun h=>by omega,fun h=>by omega,fun h=>by omega⟩
    ·rw[hk]at h0;cases h0;exact⟨aLO hk hi ⟨h1,IL.1 h1⟩,fun h=>by omega,fun h=>by omega,fun h=>by omega⟩
   ·obtain⟨b2,o2,a2,l2,e,k5,h8⟩:=(hw.lst (.inr (.inl rfl))).resolve_left (by intro h;cases h);simp only[BT.node.injEq]at e;obtain⟨rfl,rfl,rfl,rfl,rfl⟩:=e;have I2:=IL.2.2.2.2.2 h8;exact⟨aI7 hw hi I2.1,aE7 hw hi I2.2⟩
   ·obtain⟨h5,h3,h2⟩:=aY (.inl rfl) hw;exact⟨h5,⟨h3,IL.1 h3⟩,IR.2.2.2.2.1 h2⟩
   ·obtain⟨h5,h3,h2⟩:=aY (.inr (.inl rfl)) hw;have I1:=IL.2.2.1 h3;have I2:=IR.2.2.2.2.2 h2;exact⟨⟨h5,⟨h3,I1.1⟩,I2.1⟩,h5,⟨h3,I1.2⟩,I2.2⟩
end Go.Proofs.YtikffmloeifkpaaGreatDoor
namespace Go.Proofs.YtikffmloeifkpaaGreatDoor
open Go.RowKit Go.Lib Go.Deep Go.Maps Go.ChangeMaps Go.MapKept
variable {w0:World} {H pb lb kb vb xb nw nw' c c':Nat} {vS:Value} {K K':Kn} {S:Sl} {F F':Fl} {alive:Bool} {vs:Vr} {u w w':World} {m:Bool} {al fl:List Tr} {lens:Nat->Int} {par:Nat->Option Nat} {na:Nat}
theorem aCZ{b o:Nat}{a:Nd}{b3 o3:Nat}{d:Nd}{x y q:Tr}{s:St}(h15:a.tag=15):eN (.node b o a (.node b3 o3 d x y) q) s=eN q (jW s d.op (iK (cC s) x,cV x) (iK (cC s) y,cV y)):=by
 conv=>lhs;unfold eN
 rw[if_neg (by omega)]
theorem aCY{t:Tr}{s:St}(h:Ws 5 t):eN t s=eN (aB t) s:=by
 rcases h.lst (.inr (.inr (.inl rfl)))with rfl|⟨b,o,a,l,rfl,ht,_⟩
 ·rfl
 ·conv=>lhs;unfold eN
  exact if_pos ht
def aA1(i:Nat):Vr:=fun j=>if j < i then aX else(0,0)
theorem aOV(i:Nat):∀ j,aA1 (i+1) j=oT (aA1 i) i aX j:=fun j=>by
 show(if j < i+1 then aX else((0,0):Rg))=if j=i then aX else if j < i then aX else((0,0):Rg)
 by_cases e:j=i
 ·subst e;rw[if_pos (by omega),if_pos rfl]
 ·rw[if_neg e]
  by_cases e2:j < i
  ·rw[if_pos e2,if_pos (by omega)]
  ·rw[if_neg e2,if_neg (by omega)]
theorem aRD(n:Nat):OkS (some (aA1 n)):=OkS.some fun j=>by
 unfold aA1
 split
 ·exact bV.all
 ·exact bV.zero
theorem LkE.cleared{E:Int->Option Nat}(h:LkE H lb pb kb vS nw c K E w):∃ w',(∀ ty,(Builtin.clear_ #[170] ty #[.map (some kb)]).run Tryz.prog w= .ok (.tuple #[]) w')/\LkE H lb pb kb vS nw c (fun _=>none) (fun _=>none) w'/\Fs H true w w':=by
 obtain⟨w',hr,hm,ht⟩:=h.map.clear;exact⟨w',hr,⟨mU ht h.blk,hm.mono (Nat.zero_le _),fun _ _=>rfl,(fun _ _ e=>by cases e),(fun _ _ _ e=>by cases e),fun _ _=>rfl,h.ge,h.few⟩,(Fs.refl _ _ _).turned h.ge.2 ht⟩
def aP2(w0:World)(pb lb kb:Nat)(vS:Value)(S:Sl)(F':Fl)(c':Nat)(w:World):Ending->World->Prop:=fun e w'=>e= .returned (.tuple #[])/\∃ (nw':Nat) (K':Kn),SkW w0 pb lb kb vS S F' nw' c' K' w'/\Fu w0.heap.size w w'
theorem aGE(hp:PgX pb al fl w0){b:Nat}{a:Nd}{l p q:Tr}(z6:FnW w0 b a l p q)(hpl:aD l<=4)(k3:∃ ao cp,aC l= .slice ao (aD l) cp)(h8:Ws 5 p)(y5:IsT w0 p)(k5:Vd par na 12 p)(z3:Ws 4 q)(z5:GSk 136 w0 pb vS S al fl aC q)(hc:c+(2*mu q+1)<=4611686018427387904)(h:SkW w0 pb lb kb vS S F nw c K w):
 Calls Tryz.prog 83 #[.pointer (some ⟨lb,0,none⟩),.pointer (some ⟨b,0,none⟩)] w (aP2 w0 pb lb kb vS S (stA (aA al) fl q (eN p (nW (aD l))) F).2 (c+(2*mu q+1)) w):=by
 obtain⟨aol,cpl,k3⟩:=k3;obtain⟨aop,cpp,k7⟩:=h8.lstval (.inr (.inr (.inl rfl)));obtain⟨aoq,cpq,k6⟩:=z3.lstval (.inr (.inl rfl));obtain⟨_,_,m3,m4,m5,_⟩:=z6.cells;rw[k3]at m3;rw[k7]at m4;rw[k6]at m5;have hlenp:=fB (.inr (.inr (.inl rfl))) h8;have y8:=xW (S:=S) (vS:=vS) hp h8 y5 k5;rw[aCY h8];obtain⟨E,hE⟩:=h.lk;obtain⟨c0,c1,c2,c3,cf⟩:=cO hE.blk;obtain⟨w1,hr,l1,f1⟩:=hE.cleared;have S1:=h.step f1 ⟨_,l1⟩ fun _=>OkS.none;have g7:Hid _:=S1;have g5:Hid (Fu w0.heap.size w w1):=f1.both;have hfew:=h.few;have h6:w0.heap.size<=w1.heap.size:=S1.size;obtain⟨o1,k4⟩:∃ o1:Obj,o1= .cells kS 261:=⟨_,rfl⟩;obtain⟨kA,bA,zA⟩:=qN w1 o1;have z4:dW w1.heap.size (aA1 0) (w1.alloc o1):=by rw[k4];exact(xX w1).eq fun i _=>rfl
 have L0:dW w1.heap.size (aA1 0) (w1.alloc o1)/\FlW w0.heap.size vS S F (w1.alloc o1)/\Fs w0.heap.size false w1 (w1.alloc o1):=⟨z4,(S1.new bA).fl,Fs.of bA S1.size false⟩;have e3:=aE (S1.new bA).low m3;have g9:Hid _:=m4;have g8:Hid _:=m5;have g2:Hid (Ws 5 p):=h8;have j9:Hid (IsT w0 p):=y5;have g4:Hid (Vd par na 12 p):=k5;have g3:Hid (aC p= .slice aop (aD p) cpp):=k7
 have d3:Hid (∀ (K1:Kn) (W:World) (s:St),K1 0=s->SkW w0 pb lb kb vS S F nw (c+1) K1 W->Calls Tryz.prog 136 #[.pointer (some ⟨lb,0,none⟩),.int .i64 0,.slice aoq (aD q) cpq] W (pO w0 pb lb kb vS S 0 nw (c+1+2*mu q) K1 (stA (aA al) fl q s F) W)):=fun K1 W s hs h3=>by
  have:=z5 lb kb F nw (c+1) K1 0 W (by omega) (by omega) h3;rw[k6,hs]at this;exact this
 obtain⟨B,hB⟩:∃ B:St,B=nW (aD l):=⟨_,rfl⟩;rw[<-hB];have HB:Hid (B=some (aA1 (aD l))):=hB;obtain⟨Tw,y7⟩:∃ Tw,Tw=eN (aB p) B:=⟨_,rfl⟩;rw[<-y7];have g6:Hid (Tw=eN (aB p) B):=y7;generalize mu q=mq at*;unfold kS at k4;clear hE h S1 l1 f1 z6 h8 y5 k5 z3 z5 k3 k7 k6 z4 kA bA m3 m4 m5 hB y7 zA;go_enter Tryz.func83,Tryz.ntmps83
 go_upto_region 2 with fail
 rw[<-k4];clear k4;generalize w1.alloc o1=wA at*;go_wp2_with fail
 go_loopg [21] (aD l) (fun m v wr=>∃ i:Nat,v= .int .i64 i/\i<=aD l/\aD l<=i+m/\dW w1.heap.size (aA1 i) wr/\FlW w0.heap.size vS S F wr/\Fs w0.heap.size false w1 wr)
 case atStart=>exact⟨0,rfl,Nat.zero_le _,by omega,L0⟩
 case round=>
  clear L0 c0 c1 c2 c3 cf e3;obtain⟨i,rfl,hle,hmm,hv,hf,hx⟩:=hrel
  rename World=>WP
  have HV:Hid (dW w1.heap.size (aA1 i) WP):=hv;have HF:Hid (FlW w0.heap.size vS S F WP):=hf;have HX:Hid (Fs w0.heap.size false w1 WP):=hx;have g1:w0.heap.size<=WP.heap.size:=by have:=hx.size;omega
  by_cases hlt:i < aD l
  ·have y3:(i:Int) < (aD l:Int):=by omega
   have hiI:0<=(i:Int)/\(i:Int) < 12:=by omega
   obtain⟨k,rfl⟩:∃ k,gk=k+1:=⟨gk - 1,by omega⟩;obtain⟨xc,xf⟩:=hv.cells;obtain⟨x0,x1⟩:=xc i (by omega);clear xc hv hf hx;go_upto_region 5 with fail
   go_region_with (go_at_call 133;refine(rK _).mono ?_;rintro e Wa ⟨rfl,ha⟩;have fa:Fs w0.heap.size false WP.drew Wa:=Fs.of ha g1 false;have va:=dW.fs (w:=WP.drew) HV.out fa;obtain⟨zc,zf⟩:=va.cells;obtain⟨z0,z1⟩:=zc i (by omega);clear zc;rw[aS])
   all_goals
    have FIN:Hid (dW w1.heap.size (aA1 (i+1)) ((Wa.setCell ⟨w1.heap.size,i*2,none⟩ (.int .i64 aX.1)).setCell ⟨w1.heap.size,i*2+1,none⟩ (.int .i64 aX.2))/\FlW w0.heap.size vS S F ((Wa.setCell ⟨w1.heap.size,i*2,none⟩ (.int .i64 aX.1)).setCell ⟨w1.heap.size,i*2+1,none⟩ (.int .i64 aX.2))/\Fs w0.heap.size false w1 ((Wa.setCell ⟨w1.heap.size,i*2,none⟩ (.int .i64 aX.1)).setCell ⟨w1.heap.size,i*2+1,none⟩ (.int .i64 aX.2))):=by
     refine⟨(va.put (by omega) aX).eq fun j _=>aOV i j,?_,((HX.out.drew.trans fa).setNew h6 (Nat.le_refl _) _ _).setNew h6 (Nat.le_refl _) _ _⟩;obtain⟨cs,z8,_⟩:=va;have f4:FlW w0.heap.size vS S F Wa:=HF.out.same fun k _ hk=>(ha.block k (Array.getElem?_eq_some_iff.1 hk).1);exact(f4.setOther z8 (by decide) _ _).setOther (aM _ z8) (by decide) _ _
    clear fa va z0 z1 zf ha;generalize ((Wa.setCell ⟨w1.heap.size,i*2,none⟩ (.int .i64 aX.1)).setCell ⟨w1.heap.size,i*2+1,none⟩ (.int .i64 aX.2))=WF at*;go_wp2;go_roundg k
    case rel=>exact⟨i+1,by simp,by omega,by omega,FIN.out⟩
    case measure=>omega
  ·obtain rfl:i=aD l:=by omega
   have y3: ¬((aD l:Nat):Int) < ((aD l:Nat):Int):=by omega
   have S2:=g7.out.next hx hf;obtain⟨E2,l2⟩:=S2.lk;obtain⟨c0,c1,c2,c3,cf⟩:=cO l2.blk;obtain⟨W2,k8,l3,f3⟩:=l2.putNew (q:=0) (k:=w1.heap.size) (vs:=aA1 (aD l)) (by omega) h6 hv (fun p=>by rw[l2.dead p rfl];exact fun e=>by cases e) (by omega);have S3:=S2.step f3 ⟨_,l3⟩ (eW S2.ok (aRD (aD l)) 0);have U3:Hid (Fu w0.heap.size w W2):=(g5.out.trans hx.both).trans f3.both;have LW:∃ K1,SkW w0 pb lb kb vS S F nw (c+1) K1 W2/\Tw=eN (aL 0 (aB p)) (K1 0)/\Fu w0.heap.size w W2:=⟨_,S3,by rw[bU,<-HB.out];exact g6.out,U3.out⟩;have e4:=aE S3.low g9.out;clear S2 l2 l3 f3 hv hf hx HV HF HX U3 S3;go_wp2_with fail
   go_loopg [40] (aD p) (fun m v wr=>∃ i:Nat,v= .int .i64 i/\i<=aD p/\aD p<=i+m/\∃ K1,SkW w0 pb lb kb vS S F nw (c+1) K1 wr/\Tw=eN (aL i (aB p)) (K1 0)/\Fu w0.heap.size w wr)
   case atStart=>exact⟨0,rfl,Nat.zero_le _,by omega,LW⟩
   case round=>
    clear LW c0 c1 c2 c3 cf e4 k8;obtain⟨i,rfl,hle2,hm2,K1,X,hT,hU⟩:=hrel
    by_cases y4:i < aD p
    ·have k1:(i:Int) < (aD p:Int):=by omega
     obtain⟨b2,o2,a2,e2,r2,hd,z7⟩:=dK i (aB p) (by rw[<-aT];exact y4);have j5:=fE.drop i _ y8;rw[hd]at j5 hT;obtain⟨j7,⟨hE,hG⟩,_⟩:=j5;obtain⟨b3,o3,a3,l3,q3,rfl,h7,w21l,w21q⟩:=aL9 hE;obtain⟨gg,rfl,h4⟩:=pJ (H:=0) g2.out j9.out (Fr.refl 0 F0 w0) F0.body g3.out hd ⟨b3,o3,a3,l3,q3,rfl,h7⟩;have h4:w0.cell? ⟨gg,i,none⟩=some (.pointer (some ⟨b3,0,none⟩)):=h4;have h4:=aE X.low h4
     have y6:IsT w0 (.node b3 o3 a3 l3 q3):=by
      have h1:IsT w0 (aB p):=by
       cases p with
       |nil=>trivial
       |node=>exact j9.out.1
      have h2:=nQ i _ h1;rw[hd]at h2;exact h2.1
     obtain⟨k0,h9⟩:Vd par na 12 l3/\Vd par na 12 q3:=by
      have h1:Vd par na 12 (aB p):=by
       cases p with
       |nil=>trivial
       |node=>exact g4.out.1
      have h2:∀ (i:Nat) (L:Tr),Vd par na 12 L->Vd par na 12 (aL i L):=by
       intro i
       induction i with
       |zero=>intro L h;exact h
       |succ n ih=>
        intro L h;cases L with
        |nil=>trivial
        |node=>exact ih _ h.2.1
      have h3:=h2 i _ h1;rw[hd]at h3;exact⟨h3.1.1,h3.1.2.1⟩
     obtain⟨m0,_,_⟩:=pW y6.2.2 h7
     have ho:21<=a3.op/\a3.op<=26:=by
      obtain⟨k9,_⟩:=hE.parts;exact k9.op7 h7
     have hG:GV 260 w0 pb vS S al fl aC l3/\GV 260 w0 pb vS S al fl aC q3:=hG;have h0:=aHF h7 y6 ⟨sP w21l,hG.1⟩ ⟨sP w21q,hG.2⟩ 0 (by omega) X;have hA:=aQ2 (lens:=aA al) (fl:=fl) (alive:=(K1 0).isSome) (sP w21l) k0 (X.ok 0).vs F;have k2:=aQ2 (lens:=aA al) (fl:=fl) (alive:=(K1 0).isSome) (sP w21q) h9 (X.ok 0).vs F;rw[sM w21l,sM w21q]at h0;rw[sM w21l]at hA;rw[sM w21q]at k2;rw[aCZ j7]at hT
     change Calls Tryz.prog _ _ _ (fun e w'=>e= .returned (.tuple #[sdV (iK (cC (K1 0)) l3,cV l3),sdV (iK (cC (K1 0)) q3,cV q3)])/\FlW w0.heap.size vS S F w'/\Fs w0.heap.size false wr w')at h0
     change SdW (iK (cC (K1 0)) l3,cV l3)at hA
     change SdW (iK (cC (K1 0)) q3,cV q3)at k2
     obtain⟨A,j6⟩:∃ A:Sd,A=(iK (cC (K1 0)) l3,cV l3):=⟨_,rfl⟩;obtain⟨B2,j4⟩:∃ B:Sd,B=(iK (cC (K1 0)) q3,cV q3):=⟨_,rfl⟩;rw[<-j6]at h0 hA hT;rw[<-j4]at h0 k2 hT;have g0:Hid (aL (i+1) (aB p)=r2):=z7;have HT:Hid _:=hT;have HU:Hid (Fu w0.heap.size w wr):=hU;have HS:Hid (SkW w0 pb lb kb vS S F nw (c+1) K1 wr):=X;have d7:Hid (SdW A):=hA;have d4:Hid (SdW B2):=k2;have j8:Hid _:=m0;generalize a3.op=op at*;obtain⟨k,rfl⟩:∃ k,gk=k+1:=⟨gk - 1,by omega⟩;clear hT hU X hA k2 m0 j6 j4 hG k0 h9 y6 hd z7 w21l w21q h7 j7 hE y8;go_wp2_with fail
     refine h0.mono ?_;rintro e W ⟨rfl,f2,x2⟩;have S2:=HS.out.next x2 f2;obtain⟨W0,z9,b1,b2,y9,hz⟩:=pM W A B2;have S3:Hid (SkW w0 pb lb kb vS S F nw (c+1) K1 W0):=S2.new y9;have U3:Hid (Fu w0.heap.size w W0):=HU.out.trans (x2.trans (Fs.of y9 S2.size false)).both;obtain⟨p0,p1,p2,pf⟩:=aG b1;obtain⟨q0,q1,q2,qf⟩:=aG b2;have c0':=aE S3.out.low j8.out;have d6:Hid _:=b1;have d5:Hid _:=b2;have hh:=aG8 S3.out.drew.lk 0 (by omega) op ho A B2 d7.out d4.out;rw[jQ A,jQ B2]at hh;rw[jQ A,jQ B2];clear h0 f2 x2 S2 b1 b2 y9;go_upto_region 12 with fail
     rw[<-z9];clear z9
     go_region_held3 (fun w'=>w'.cell? ⟨b3,0,none⟩=some (.int .i64 op)/\w'.cell? ⟨W.heap.size,0,none⟩=some (.int .i64 A.1.1)/\w'.cell? ⟨W.heap.size,1,none⟩=some (.int .i64 A.1.2)/\w'.cell? ⟨W.heap.size,2,none⟩=some (.int .i64 A.2)/\w'.cell? ⟨W.heap.size+1,0,none⟩=some (.int .i64 B2.1.1)/\w'.cell? ⟨W.heap.size+1,1,none⟩=some (.int .i64 B2.1.2)/\w'.cell? ⟨W.heap.size+1,2,none⟩=some (.int .i64 B2.2))
      (first
        |(refine⟨?_,?_,?_,?_,?_,?_,?_⟩<;>assumption)
        |go_keep)
      ((go_at_call 135;refine hh.mono ?_;rintro e Wa ⟨rfl,h5,f5⟩;have S5:=S3.out.drew.step f5 h5 (eW S3.out.ok (nR (S3.out.ok 0) op A B2) 0);have d1:=f5.keep (w:=W0.drew) d6.out (by decide) (.inl (by decide)) (.inl (by decide));have d2:=f5.keep (w:=W0.drew) d5.out (by decide) (.inl (by decide)) (.inl (by decide));obtain⟨y0,y1,y2,yf⟩:=aG d1;obtain⟨z0,z1,z2,zf⟩:=aG d2;have d0:=aE S5.low j8.out))
     have fin:∃ i':Nat,Value.int .i64 ((i:Int)+1)= .int .i64 i'/\i'<=aD p/\aD p<=i'+k/\∃ K1,SkW w0 pb lb kb vS S F nw (c+1) K1 Wa/\Tw=eN (aL i' (aB p)) (K1 0)/\Fu w0.heap.size w Wa:=
      ⟨i+1,by simp,by omega,by omega,_,S5,by rw[g0.out,bU];exact HT.out,U3.out.trans ((Fs.refl _ _ _).drew.trans f5).both⟩
     clear S5 h5 f5 d1 d2 y0 y1 y2 yf z0 z1 z2 zf d0 hh p0 p1 p2 pf q0 q1 q2 qf c0' HT g0;go_wp2;go_roundg k
     case rel=>exact fin
     case measure=>omega
    ·have k1: ¬(i:Int) < (aD p:Int):=by omega
     have j3:K1 0=Tw:=by
      rw[hT,show i=aO (aB p)by rw[<-aT];omega,eS];rfl
     have h0:=d3.out K1 wr Tw j3 X;have e5:=aE X.low g8.out;have HU:Hid (Fu w0.heap.size w wr):=hU;generalize stA (aA al) fl q Tw F=Y at*;clear X hT j3 hU y8;go_wp2_with fail
     refine h0.mono ?_;rintro e W ⟨rfl,nw4,K4,j0,S4,j1,j2,U4⟩;have FIN:Hid (aP2 w0 pb lb kb vS S Y.2 (c+(2*mq+1)) w (.returned (.tuple #[])) W):=⟨rfl,nw4,K4,S4.mono (by omega) (by omega),HU.out.trans U4⟩;clear S4 j1 j2 U4 h0 e5;go_wp2;go_end0
     exact FIN.out
end Go.Proofs.YtikffmloeifkpaaGreatDoor
namespace Go.Proofs.YtikffmloeifkpaaGreatDoor
open Go.RowKit Go.Lib Go.Deep Go.Maps Go.ChangeMaps Go.MapKept
variable {w0:World} {H pb lb kb vb xb nw nw' c c':Nat} {vS:Value} {S:Sl} {w w':World}
theorem aAA:∀ (S:Sl) (u:Value),u∈dC S->u.oneCell'=true:=by
 intro S
 induction S with
 |nil=>intro u h;cases h
 |cons x r ih=>
  obtain⟨a,b⟩:=x;intro u h;simp only[dC,List.mem_cons]at h;rcases h with rfl|rfl|rfl|h
  ·simp[Value.oneCell']
  ·simp[Value.oneCell']
  ·simp[Value.oneCell']
  ·exact ih u h
theorem aR6(h6:w.ownsRow H 55 3 vS S.length (dC S))(hn:S.length<=1000000):
 Calls Tryz.prog 82 #[vS] w fun e w'=>∃ v,e= .returned v/\w'.ownsRow w.heap.size 55 3 v S.length (dC S)/\Below w.heap.size w w':=by
 obtain⟨i0,k6,k3,k2,k1⟩:=info_parts Tryz.infoSI;rcases h6.2 with⟨rfl,h0⟩|⟨g,cap,cur,rfl,hb,hg,hle,hcap,hsz,k4⟩
 ·have hS:S=[]:=List.length_eq_zero_iff.1 h0;subst hS;have heq:∀ w:World,(binOp .eql 52 (.slice none 0 0) (.slice none 0 0)).run Tryz.prog w= .ok (.bool true) w:=fun w=>by kernel_rfl
  go_enter Tryz.func82,Tryz.ntmps82
  go_wp2;go_ret;exact⟨_,rfl,World.ownsRow_nil _ _ _ _,Below.refl _ _⟩
 ·have hl:=h6.1
  have h5:∀ (W:World),Below w.heap.size w W->∀ j u,(dC S)[j]?=some u->W.cell? ((⟨g,0,none⟩:Addr).add j)=some u:=fun W hW j u hu=>by
   have k0:(⟨g,0,none⟩:Addr).add j=⟨g,j,none⟩:=by unfold Addr.add;split<;>simp_all
   have k7:W.heap[g]?=some (.cells cur 55 (0,0)):=(hW.block g (Array.getElem?_eq_some_iff.1 hg).1).trans hg;rw[k0,cell_of_row _ _ _ _ _ _ k7];rw[<-k4,List.getElem?_take]at hu
   split at hu
   ·rw[<-hu,Array.getElem?_toList]
   ·cases hu
  have hne:∀ w:World,(binOp .eql 52 (.slice (some ⟨g,0,none⟩) S.length cap) (.slice none 0 0)).run Tryz.prog w= .ok (.bool false) w:=fun w=>by kernel_rfl
  go_enter Tryz.func82,Tryz.ntmps82
  have bA:Below w.heap.size w (w.alloc (.cells #[] 55)):=(Below.refl _ _).alloc (Nat.le_refl _) _
  have h8:(w.alloc (.cells #[] 55)).ownsRow w.heap.size 55 3 (.slice (some ⟨w.heap.size,0,none⟩) 0 0) 0 []:=
   ⟨rfl,.inr ⟨w.heap.size,0,#[],rfl,Nat.le_refl _,heap_alloc_new w _,Nat.le_refl _,Nat.zero_le _,rfl,rfl⟩⟩
  have k5:=h5 _ bA;have h7:Hid _:=bA;clear h6 h5 hg;go_upto_region 3 with fail
  go_wp2_with (at_builtin;refine wpList_append_own_at (w.alloc (.cells #[] 55)) rfl _ _ _ rfl w.heap.size 55 i0 _ 3 24 Tryz.underlying52 k6 k3 k2 k1 rfl (by omega) (.slice (some ⟨w.heap.size,0,none⟩) 0 0) 0 [] rfl h8 ⟨g,0,none⟩ S.length cap (dC S) rfl hl k5 (aAA S) (by unfold maxLen;omega) (by omega) (by simp) ?_;intro v' w' h4 h3 h9 k8)
  have FIN:Hid (w'.ownsRow w.heap.size 55 3 v' S.length (dC S)/\Below w.heap.size w w'):=by
   rw[Nat.zero_add,List.nil_append]at h4;refine⟨h4,h3.os.trans h7.out.os,h3.tape.trans h7.out.tape,h3.output.trans h7.out.output,?_,fun k hk=>?_⟩
   ·have h1:=h3.size;have h2:=h7.out.size;omega
   ·exact(h3.block k (by have:=h7.out.size;omega) (by show some k≠some w.heap.size;simp;omega)).trans (h7.out.block k hk)
  clear h4 h3 h9 k8;go_wp2;go_ret;exact⟨v',rfl,FIN.out⟩
end Go.Proofs.YtikffmloeifkpaaGreatDoor
namespace Go.Proofs.YtikffmloeifkpaaGreatDoor
open Go.RowKit Go.Lib Go.Deep Go.Maps Go.ChangeMaps Go.MapKept
variable {w0:World} {H pb lb kb vb xb nw nw' c c':Nat} {vS:Value} {K K':Kn} {S:Sl} {F F':Fl} {alive:Bool} {vs:Vr} {u w w':World} {m:Bool} {al fl:List Tr} {lens:Nat->Int} {par:Nat->Option Nat} {na:Nat}
theorem aBS:∀ (S:Sl) (i:Nat) (hi:i < S.length),(dC S)[i*3]?=some (.int .i64 S[i].1)/\(dC S)[i*3+1]?=some (.int .i64 S[i].2)/\(dC S)[i*3+2]?=some (.bool false):=by
 intro S
 induction S with
 |nil=>intro i hi;exact absurd hi (by simp)
 |cons x r ih=>
  obtain⟨a,b⟩:=x;intro i hi;cases i with
  |zero=>exact⟨rfl,rfl,rfl⟩
  |succ n=>
   obtain⟨h1,h2,h3⟩:=ih n (by simp only[List.length_cons]at hi;omega);have e:(n+1)*3=n*3+3:=by omega
   rw[e];exact⟨h1,h2,h3⟩
theorem FlW.start(h:w.ownsRow H 55 3 vS S.length (dC S)):FlW H vS S (fun _=>false) w:=by
 rcases h.2 with⟨rfl,h0⟩|⟨g,cap,cur,rfl,hb,hg,hle,hcap,hsz,h4⟩
 ·exact⟨.inl ⟨List.length_eq_zero_iff.1 h0,none,0,rfl⟩⟩
 ·refine⟨.inr ⟨g,cap,cur,rfl,hb,hg,fun i hi=>?_⟩⟩
  have at_:∀ j v,(dC S)[j]?=some v->cur[j]?=some v:=fun j v hj=>by
   rw[<-h4,List.getElem?_take]at hj
   split at hj
   ·rw[<-hj,Array.getElem?_toList]
   ·cases hj
  obtain⟨h1,h2,h3⟩:=aBS S i hi;exact⟨at_ _ _ h1,at_ _ _ h2,at_ _ _ h3⟩
structure aTK(w0:World)(pb lb kb:Nat)(vS:Value)(S:Sl)(al fl:List Tr)(D:Nat)(T:Fl)(i:Nat)(F:Fl)(nw c:Nat)(K:Kn)(wr:World):Prop where
 res:T=(fl.drop i).foldl (fun F e=>fnA (aA al) fl e F) F
 sk:SkW w0 pb lb kb vS S F nw c K wr
 cs:c+(fl.length - i)*D<=4611686018427387904
 fu:Fu w0.heap.size w0 wr
theorem aPY(hp:PgX pb al fl w0)(hF:aCS par na al fl){it vA vF v0:Value}{mm:Int}(k2:w0.heap[pb]?=some (.cells (qM it vA vF mm v0) 111 (0,0)))(h6:w0.ownsRow H 55 3 v0 S.length (dC S))(hS:S.length<=1000000)(z0:∀ e∈fl,aH0 S (bG e))(k4:∀ e∈fl,∀ b o a l r,e= .node b o a l r->aD l<=4/\∃ ao cp,aC l= .slice ao (aD l) cp){D:Nat}(hD:∀ e∈fl,2*mu (bG e)+1<=D)(hb:fl.length*D<=4611686018427387904):
 Calls Tryz.prog 48 #[.pointer (some ⟨pb,0,none⟩)] w0 fun e w'=>∃ vS,e= .returned vS/\FlW w0.heap.size vS S (fl.foldl (fun F e=>fnA (aA al) fl e F) fun _=>false) w'/\Below w0.heap.size w0 w':=by
 obtain⟨it',vA',vF',mm',vS',H9,h1,_,y7⟩:=hp.prog;rw[k2]at h1;simp only[Option.some.injEq,Obj.cells.injEq,qM]at h1
 obtain rfl:vF=vF':=by
  have h2:=congrArg (fun a:Array Value=>a[2]?) h1.1;exact Option.some.inj h2
 have y5:=aR6 h6 hS;have c4:w0.cell? ⟨pb,4,none⟩=some v0:=by rw[cell_of_row _ _ _ _ _ _ k2];rfl
 have c2:w0.cell? ⟨pb,2,none⟩=some vF:=by rw[cell_of_row _ _ _ _ _ _ k2];rfl
 obtain⟨aof,cpf,k0,_⟩:=eQ y7.row;subst k0;have z1:∀ w:World,(Instr.makeMap 170 none).run Tryz.prog w= .ok (.map (some w.heap.size)) (w.alloc (.map #[] 0)):=fun w=>run_makeMap _ w;obtain⟨T,hT⟩:∃ T:Fl,T=fl.foldl (fun F e=>fnA (aA al) fl e F) fun _=>false:=⟨_,rfl⟩;rw[<-hT];have HT:Hid (T=fl.foldl (fun F e=>fnA (aA al) fl e F) fun _=>false):=hT;have z4:Hid _:=c2;clear hT k2 h1 h6 c2;go_enter Tryz.func48,Tryz.ntmps48
 go_wp2_with fail
 refine y5.mono ?_;rintro e W ⟨vS,rfl,h5,hB⟩;have fl0:=FlW.start (h5.mono (Nat.le_refl _));obtain⟨av,cv,rfl,_⟩:=eQ h5;obtain⟨o1,k5⟩:∃ o1:Obj,o1= .cells #[.pointer (some ⟨pb,0,none⟩),.slice av S.length cv,.map (some W.heap.size),.int .i64 0] 173:=⟨_,rfl⟩;have bA:Below W.heap.size W (W.alloc (.map #[] 0)):=(Below.refl _ _).alloc (Nat.le_refl _) _;have zA:(W.alloc (.map #[] 0)).heap.size=W.heap.size+1:=by simp
 obtain⟨kB,bB,zB⟩:=qN (W.alloc (.map #[] 0)) o1;have k8:w0.heap.size<=W.heap.size:=hB.size;have low2:∀ i,i < w0.heap.size->((W.alloc (.map #[] 0)).alloc o1).heap[i]?=w0.heap[i]?:=fun i hi=>(bB.block i (by omega)).trans ((bA.block i (by omega)).trans (hB.block i hi));have h7:Pm ((W.alloc (.map #[] 0)).alloc o1) W.heap.size 0 fun _=>none:=(Pm.made W).same (bB.block _ (by omega));have y3:FlW w0.heap.size (.slice av S.length cv) S (fun _=>false) ((W.alloc (.map #[] 0)).alloc o1):=(fl0.same fun k _ hk=>bA.block k (Array.getElem?_eq_some_iff.1 hk).1).same fun k _ hk=>bB.block k (Array.getElem?_eq_some_iff.1 hk).1
 have y0:LkE w0.heap.size (W.heap.size+1) pb W.heap.size (.slice av S.length cv) 0 0 (fun _=>none) (fun _=>none) ((W.alloc (.map #[] 0)).alloc o1):=
  ⟨by rw[<-zA,kB,k5];rfl,h7.mono (Nat.zero_le _),fun _ _=>rfl,(fun _ _ e=>by cases e),(fun _ _ _ e=>by cases e),fun _ _=>rfl,⟨by omega,k8⟩,by omega⟩
 have S0:SkW w0 pb (W.heap.size+1) W.heap.size (.slice av S.length cv) S (fun _=>false) 0 0 (fun _=>none) ((W.alloc (.map #[] 0)).alloc o1):=⟨⟨_,y0⟩,y3,low2,fun _=>OkS.none⟩;have U0:Fu w0.heap.size w0 ((W.alloc (.map #[] 0)).alloc o1):=((Fs.of hB (Nat.le_refl _) false).trans ((Fs.of bA k8 false).trans (Fs.of bB (by omega) false))).both;have L0:∃ F nw c K,aTK w0 pb (W.heap.size+1) W.heap.size (.slice av S.length cv) S al fl D T 0 F nw c K ((W.alloc (.map #[] 0)).alloc o1):=⟨_,_,_,_,HT.out,S0,by simpa using hb,U0⟩;have c2:=aE low2 z4.out;clear y5 h5 fl0 bA kB bB zB low2 h7 y3 y0 S0 U0 hB c4 HT;go_upto_region 2 with fail
 rw[<-k5];clear k5 z1;generalize (W.alloc (.map #[] 0)).alloc o1=wA at*;go_wp2_with fail
 go_loopg [19] fl.length (fun m v wr=>∃ i:Nat,v= .int .i64 i/\i<=fl.length/\fl.length<=i+m/\∃ F nw c K,aTK w0 pb (W.heap.size+1) W.heap.size (.slice av S.length cv) S al fl D T i F nw c K wr)
 case atStart=>exact⟨0,rfl,Nat.zero_le _,by omega,L0⟩
 case round=>
  clear L0 c2;obtain⟨i,rfl,hle,hmm,F1,nw1,c1,K1,LP⟩:=hrel
  by_cases k7:i < fl.length
  ·have k6:(i:Int) < (fl.length:Int):=by omega
   obtain⟨g9,cp9,cb,o9,a9,l9,x9,y9,z9,pw,qb,k0,y1,e9,y2⟩:=y7.get (j:=i) (e:=fl[i]) (by rw[List.getElem?_eq_getElem k7]);simp only[Value.slice.injEq]at k0;obtain⟨rfl,_,rfl⟩:=k0;have hfew:=hF.few;have h0:fl[i]∈fl:=List.getElem_mem k7;obtain⟨f1,f2,f3,f4⟩:=hF.fns _ h0;obtain⟨p4,k9⟩:=k4 _ h0 _ _ _ _ _ e9;have h4:=z0 _ h0;have z3:=hD _ h0;have h8:=wT (hp.fns _ h0);have z2:=LP.cs;have k1:=LP.res;rw[List.drop_eq_getElem_cons k7,List.foldl_cons]at k1;have k3:fl.length - i=(fl.length - (i+1))+1:=by omega
   rw[k3,Nat.succ_mul]at z2;have y4:fnA (aA al) fl fl[i] F1=(stA (aA al) fl qb (eN pw (nW (aD l9))) F1).2:=by rw[e9];rfl
   rw[y4]at k1;have e1:aU fl[i]=pw:=by rw[e9];rfl
   have e2:bG fl[i]=qb:=by rw[e9];rfl
   rw[e1]at f1 f3 h8;rw[e2]at f2 f4 h8 h4 z3;have hG:=((aQ7 (S:=S) (vS:= .slice av S.length cv) hp hF _ qb (Nat.le_refl _) f4 h8.2 h4).2.2.2.1 f2).1;have h3:=aGE hp y2 p4 k9 f1 h8.1 f3 f2 hG (c:=c1) (by omega) LP.sk;have h9:=aE LP.sk.low y1;generalize (stA (aA al) fl qb (eN pw (nW (aD l9))) F1).2=F2 at*;generalize mu qb=mq at*;have y8:Hid _:=k1;have HU:Hid (Fu w0.heap.size w0 wr):=LP.fu;obtain⟨k,rfl⟩:∃ k,gk=k+1:=⟨gk - 1,by omega⟩;clear k1 LP hG y4 e1 e2 e9 y2 f1 f2 f3 f4 h4 h8 y1 p4 k9 h0;go_wp2_with fail
   refine h3.mono ?_;rintro e W2 ⟨rfl,nw2,K2,S2,U2⟩
   have fin:∃ i':Nat,Value.int .i64 ((i:Int)+1)= .int .i64 i'/\i'<=fl.length/\fl.length<=i'+k/\∃ F nw c K,aTK w0 pb (W.heap.size+1) W.heap.size (.slice av S.length cv) S al fl D T i' F nw c K W2:=
    ⟨i+1,by simp,by omega,by omega,F2,nw2,c1+(2*mq+1),K2,y8.out,S2,by omega,HU.out.trans U2⟩
   clear S2 U2 h3 h9 y8 HU;go_wp2;go_roundg k
   case rel=>exact fin
   case measure=>omega
  ·have k6: ¬(i:Int) < (fl.length:Int):=by omega
   have y6:T=F1:=by
    have:=LP.res;rw[List.drop_eq_nil_of_le (by omega)]at this;exact this
   obtain⟨E,hE⟩:=LP.sk.lk;obtain⟨c0,c1',c2,c3,cf⟩:=cO hE.blk
   have FIN:Hid (FlW w0.heap.size (.slice av S.length cv) S T wr/\Below w0.heap.size w0 wr):=by
    rw[y6];exact⟨LP.sk.fl,LP.fu.os,LP.fu.tape,LP.fu.output,LP.fu.size,LP.fu.low⟩
   clear LP y6 hE;go_wp2;go_ret;exact⟨_,rfl,FIN.out⟩
end Go.Proofs.YtikffmloeifkpaaGreatDoor
namespace Go.Proofs.YtikffmloeifkpaaGreatDoor
open Go.RowKit Go.Lib Go.Deep Go.Maps Go.ChangeMaps Go.MapKept
theorem aU0(t:Tr):mu (er t)=mu t:=by
 induction t with
 |nil=>rfl
 |node b o a l r ihl ihr=>
  show(if a.tag=12 then 4*(2+mu (er l)+mu (er r))else(if a.tag=7\/a.tag=8\/a.tag=11 then 1 else 0)+mu (er l)+mu (er r))=(if a.tag=12 then 4*(2+mu l+mu r)else(if a.tag=7\/a.tag=8\/a.tag=11 then 1 else 0)+mu l+mu r);rw[ihl,ihr]
theorem aRR:∀ (t t':Tr),Sh t t'->mu t'=mu t:=by
 intro t
 induction t with
 |nil=>
  intro t' h;cases t' with
  |nil=>rfl
  |node=>exact h.elim
 |node b o a l r ihl ihr=>
  intro t' h;cases t' with
  |nil=>exact h.elim
  |node b' o' a' l' r'=>
   obtain⟨_,_,ht,_,_,_,_,_,_,_,hl,hr⟩:=h;show(if a'.tag=12 then 4*(2+mu l'+mu r')else(if a'.tag=7\/a'.tag=8\/a'.tag=11 then 1 else 0)+mu l'+mu r')=(if a.tag=12 then 4*(2+mu l+mu r)else(if a.tag=7\/a.tag=8\/a.tag=11 then 1 else 0)+mu l+mu r);rw[ht,ihl _ hl,ihr _ hr]
def MuL:Tr->Prop
 | .nil=>True
 | .node _ _ _ e r=>MuB e/\MuL r
theorem MuL.of:∀ {L:Tr},(∀ e∈toL L,MuB e)->MuL L:=by
 intro L
 induction L with
 |nil=>intro _;trivial
 |node b o a e r _ ih=>intro h;exact⟨h e (List.mem_cons_self ..),ih fun x hx=>h x (List.mem_cons_of_mem _ hx)⟩
theorem MuL.er:∀ {L:Tr},MuL (YtikffmloeifkpaaGreatDoor.er L)->MuL L:=by
 intro L
 induction L with
 |nil=>intro _;trivial
 |node b o a e r _ ih=>
  intro h;refine⟨?_,ih h.2⟩;rintro b o a l x y z p q rfl;have:=h.1 _ _ _ _ _ _ _ _ _ rfl;rw[aU0]at this;exact this
theorem MuB.sh{e e':Tr}(h:MuB e)(hs:Sh e e'):MuB e':=by
 rintro b o a l x y z p q rfl;cases e with
 |nil=>exact hs.elim
 |node b1 o1 a1 l1 r1=>
  obtain⟨_,_,_,_,_,_,_,_,_,_,_,hr⟩:=hs;cases r1 with
  |nil=>exact hr.elim
  |node x1 y1 z1 p1 q1=>
   obtain⟨_,_,_,_,_,_,_,_,_,_,_,hq⟩:=hr;rw[aRR _ _ hq];exact h _ _ _ _ _ _ _ _ _ rfl
theorem MuL.sh:∀ {L L':Tr},MuL L->Sh L L'->MuL L':=by
 intro L
 induction L with
 |nil=>
  intro L' _ hs;cases L' with
  |nil=>trivial
  |node=>exact hs.elim
 |node b o a e r _ ih=>
  intro L' h hs;cases L' with
  |nil=>exact hs.elim
  |node b' o' a' e' r'=>
   obtain⟨_,_,_,_,_,_,_,_,_,_,hl,hr⟩:=hs;exact⟨h.1.sh hl,ih h.2 hr⟩
variable {F:cM} {its:List Tr}
theorem MuB.itT{e:Tr}(i:Nat)(s:Rs)(h:MuB e):MuB (YtikffmloeifkpaaGreatDoor.itT F its e i s):=by
 cases e with
 |nil=>exact h
 |node b o a l r=>
  show MuB (if a.tag=16 then BT.node b o a l r else fnT F its (.node b o a l r) (s.twice F a i))
  split
  ·exact h
  ·cases r with
   |nil=>exact h
   |node x y z p q=>
    intro b2 o2 a2 l2 x2 y2 z2 p2 q2 he;have he:BT.node _ _ _ _ (BT.node _ _ _ _ (reT F its q _))=BT.node b2 o2 a2 l2 (BT.node x2 y2 z2 p2 q2):=he;simp only[BT.node.injEq]at he;rw[<-he.2.2.2.2.2.2.2.2,aRR _ _ (dJ _ _ _ _)];exact h _ _ _ _ _ _ _ _ _ rfl
theorem MuL.itsT:∀ {L:Tr} (i:Nat) (s:Rs),MuL L->MuL (YtikffmloeifkpaaGreatDoor.hY F its L i s):=by
 intro L
 induction L with
 |nil=>intro _ _ _;trivial
 |node b o a e r _ ih=>intro i s h;exact⟨h.1.itT i s,ih _ _ h.2⟩
theorem MuL.kind{k:Nat}:∀ {L:Tr},MuL L->∀ e∈aF k L,MuB e:=by
 intro L
 induction L with
 |nil=>intro _ e he;cases he
 |node b o a x r _ ih=>
  intro h e he
  by_cases hk:bN x=k
  ·rw[show aF k (.node b o a x r)=x::aF k r from if_pos hk]at he;rcases List.mem_cons.1 he with rfl|he
   ·exact h.1
   ·exact ih h.2 e he
  ·rw[show aF k (.node b o a x r)=aF k r from if_neg hk]at he;exact ih h.2 e he
theorem aTV{s:ByteArray}(hc:(eZ s).1=0):MuL (aB (rdT s)):=by
 unfold eZ at hc
 by_cases h4:4000 < s.size
 ·rw[if_pos h4]at hc;cases hc
 rw[if_neg h4]at hc
 by_cases h1:(dN s).code=0
 ·rw[if_neg (by omega)]at hc
  by_cases h2:(bP (aW s)).1.code=0
  ·have h0:=mV h1 (by omega);have he:=lI s;have hm:=aE2 h0 he (gF he (bY (aW s)) 6) (pH h0 he (bY (aW s)) 6) (aNF h0 he (bY (aW s))).2.2.2.1 (bY (aW s)) (bY (aW s)) rd0 (by simp[aW,rd0]) rfl h2
   have e:aB (rdT s)=(aJ (aW s) (iH (aW s) (bY (aW s)) 6) (bY (aW s)) (bY (aW s)) rd0).2:=by
    show aB (gE _)=_;unfold gE
    split
    ·rename_i h;exact h.symm
    ·rfl
   rw[e];exact MuL.of hm
  ·rw[if_pos h2]at hc;exact absurd hc h2
 ·rw[if_pos h1]at hc;exact absurd hc h1
theorem oC.mu{s:ByteArray}{t:Tr}(hg:oC s t)(he:er t=rdT s)(hc:(eZ s).1=0){e:Tr}(hm:e∈gG t):MuB e:=by
 have h1:=aTV hc;rw[<-he,gT]at h1;have h2:=h1.er;have hL:=hg.ws.elems (.inr (.inr (.inr (.inr rfl))));have h3:=h2.sh (oW (aB t) 0 0 hL);have h4:MuL (aB (dY t)):=by rw[jJ hg.ws];exact h3.itsT _ _
 unfold gG at hm;rw[hg.el]at hm;exact(h4.sh (gO _ _ _)).kind e hm
end Go.Proofs.YtikffmloeifkpaaGreatDoor
namespace Go.Proofs.YtikffmloeifkpaaGreatDoor
open Go.RowKit Go.Lib Go.Deep Go.Maps Go.ChangeMaps Go.MapKept
def fS(s:ByteArray):Sl:=siR (cR (rdT s)) (dY (rdT s)) []
def fN(t:Tr):Fl:=(gG t).foldl (fun F e=>fnA (aA (qO t)) (gG t) e F) fun _=>false
theorem aHD{s:ByteArray}{t:Tr}(hg:oC s t){e:Tr}(he:e∈gG t):aH0 (siR (cR t) (dY t) []) (bG e):=by
 intro k hk;have h8:=(lM hg.ws).1;obtain⟨h5,h6⟩:=aDN (F0:=cR t) (dY t) 8 [] h8
 have h0:∀ j∈bE (aB (siT (cR t) (dY t) [])),j∈bE (siT (cR t) (dY t) []):=fun j hj=>by
  cases hT:siT (cR t) (dY t) []with
  |nil=>rw[hT]at hj;exact hj
  |node b o a l r=>rw[hT]at hj;exact fR hj
 have h4:(bE (aB (siT (cR t) (dY t) []))).Nodup:=by
  cases hT:siT (cR t) (dY t) []with
  |nil=>exact List.nodup_nil
  |node b o a l r=>rw[hT]at h5;exact(fU h5).1
 have h1:=(yW 17 _ h4).2 e he;obtain⟨h2,h3⟩:=h6 k (h0 k (h1.2 k (tW e k hk)));simp only[List.length_nil]at h2;exact⟨k.toNat,by omega,by omega⟩
theorem aHK{s:ByteArray}(hc:(eZ s).1=0):s.size<=4000/\(dN s).code=0/\(bP (aW s)).1.code=0:=by
 unfold eZ at hc
 by_cases h4:4000 < s.size
 ·rw[if_pos h4]at hc;cases hc
 rw[if_neg h4]at hc
 by_cases h1:(dN s).code=0
 ·rw[if_neg (by omega)]at hc
  by_cases h2:(bP (aW s)).1.code=0
  ·exact⟨by omega,h1,h2⟩
  ·rw[if_pos h2]at hc;exact absurd hc h2
 ·rw[if_pos h1]at hc;exact absurd hc h1
theorem aAS{H g cap pb:Nat}{s:ByteArray}{t:Tr}{vA vF vS:Value}{w:World}(h:Pg0 H g cap pb s t vA vF vS w)(hc:(eZ s).1=0)(hg:oC s t):(siR (cR t) (dY t) []).length<=1000000:=by
 obtain⟨h4,h1,h2⟩:=aHK hc;have h0:=mV h1 (by omega);have h3:=aRN (aBN h1) (by have:=(qA h0 (lI s) h.toks.pos h2).2;exact this);have h8:ps t=ps (bP (aW s)).2:=by rw[<-aRP t,h.er];rfl
 have h5:=lS (cR t) (dY t) [];rw[(lM hg.ws).2.1,h8]at h5;have h6:=h3.2;have h7:=h.toks.few;simp only[List.length_nil]at h5;omega
theorem aTI{H g cap pb:Nat}{s:ByteArray}{t:Tr}{vA vF vS:Value}{w:World}(h:Pg0 H g cap pb s t vA vF vS w)(hc:(eZ s).1=0):
 Calls Tryz.prog 48 #[.pointer (some ⟨pb,0,none⟩)] w fun e w'=>∃ v,e= .returned v/\FlW w.heap.size v (siR (cR t) (dY t) []) (fN t) w'/\Below w.heap.size w w':=by
 have hg:=good h.er hc
 have hlen:(gG t).length<=10000:=by
  rw[hg.len];have h1:=aEA 17 (aB t);have h2:=fB (.inr (.inr (.inr (.inr rfl)))) hg.ws;rw[aT]at h2;omega
 refine aPY (par:=mI t) (na:=oU t) (D:=10737418240001) (h.pgx hg) hg.flok h.prog h.sites (aAS h hc hg) (fun e he=>aHD hg he) (fun e he b o a l r e1=>?_) (fun e he=>?_) (by omega)
 ·obtain⟨b',o',a',l',x,y,z,p,q,e2,h17,hl,_⟩:=hg.fl he;have h3:=he;unfold gG at h3;rw[hg.el]at h3;obtain⟨e0,S0,h0,e3⟩:=mM hg.si h3;obtain⟨b4,o4,a4,l4,x4,y4,z4,p4,q4,e4,_,_,_,_,h5⟩:=hg.ok.fns e0 h0;have hn:gJ e=gJ e0:=by rw[e3,yR]
  rw[e1]at e2;cases e2;rw[e1,e4]at hn;have hn:aD l=aD l4:=hn;exact⟨by omega,hl.lstval (by omega)⟩
 ·obtain⟨b,o,a,l,x,y,z,p,q,rfl,_⟩:=hg.fl he;have:=hg.mu h.er hc he _ _ _ _ _ _ _ _ _ rfl;show 2*mu q+1<=_;omega
theorem aL0{ab:Nat}{s:ByteArray}{w:World}(h:PgW ab s w)(hc:(eZ s).1=0):Calls Tryz.prog 27 #[.pointer (some ⟨ab,0,none⟩)] w fun e w'=>∃ v t,er t=rdT s/\e= .returned v/\FlW w.heap.size v (siR (cR t) (dY t) []) (fN t) w'/\Below w.heap.size w w':=by
 obtain⟨H,g,cap,pb,t,vA,vF,vS,h0,hp⟩:=h.ex;have hR:=aTI hp hc
 have c1:w.cell? ⟨ab,1,none⟩=some (.pointer (some ⟨pb,0,none⟩)):=by
  rw[cell_of_row _ _ _ _ _ _ h0];rfl
 have hN:=yZ ab pb _ c1;have h1:Hid (er t=rdT s):=hp.er;clear hp h0;go_enter Tryz.func27,Tryz.ntmps27
 go_wp2_with fail
 refine hN.mono ?_;rintro e w' ⟨rfl,rfl⟩;clear hN;go_wp2_with fail
 refine hR.mono ?_;rintro e W2 ⟨v,rfl,hf,hb⟩;have FIN:Hid (FlW w.heap.size v (siR (cR t) (dY t) []) (fN t) W2/\Below w.heap.size w W2):=⟨hf,hb⟩;clear hf hb hR;go_wp2;go_ret;exact⟨v,t,h1.out,rfl,FIN.out⟩
end Go.Proofs.YtikffmloeifkpaaGreatDoor
