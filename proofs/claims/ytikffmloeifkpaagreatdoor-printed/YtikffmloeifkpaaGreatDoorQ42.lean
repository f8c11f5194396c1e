/- Contracts. -/
import Derived.Test.YtikffmloeifkpaaGreatDoorQ40
import Derived.Test.YtikffmloeifkpaaGreatDoorQ36
import Derived.Test.YtikffmloeifkpaaGreatDoorQ41
import Derived.Test.YtikffmloeifkpaaGreatDoorQ38
set_option maxHeartbeats 16000000
set_option maxRecDepth 100000
namespace Go.Proofs.YtikffmloeifkpaaGreatDoor
section
open Go.RowKit Go.Lib Go.Deep Go.Maps Go.ChangeMaps Go.MapKept
variable {w0:World} {pb lb kb vb xb nw nw' c c':Nat} {vS:Value} {K K':Kn} {S:Sl} {F F':Fl} {alive:Bool} {vs:Vr} {u w w':World} {m:Bool} {al fl:List Tr} {lens:Nat->Int}
theorem aM5{par:Nat->Option Nat}{na:Nat}:∀ (t:Tr),Vd par na 12 t->cV t= -1\/0<=cV t/\cV t < 12:=by
 intro t
 induction t with
 |nil=>intro _;exact .inl rfl
 |node b o a l q ihl _=>
  intro hv;obtain⟨vl,_,v1,_,_⟩:=hv
  by_cases t4:a.tag=4
  ·rw[aM6 t4];exact ihl vl
  by_cases t1:a.tag=1
  ·rw[aM7 t1];have:=v1 (.inl t1);exact .inr Oa
  ·rw[aHC t4 t1];exact .inl rfl
theorem aQ2{par:Nat->Option Nat}{na:Nat}{t:Tr}(hw:Ws 0 t)(hv:Vd par na 12 t)(hs:∀ i,bV (vs i))(F:Fl):SdW (hdR (exA lens fl alive vs t F).1,cV t):=by
 have h:=(wK (lens:=lens) (fl:=fl) (alive:=alive) hs t 0 F hw).hd;exact⟨aM5 t hv,⟨h.lo,Int.le_trans h.le h.hi⟩,⟨Int.le_trans h.lo h.le,h.hi⟩⟩
theorem SkW.step(h:SkW w0 pb lb kb vS S F nw c K w)(hx:Fs w0.heap.size true w w')(hl:LkW w0.heap.size lb pb kb vS nw' c' K' w')(ok:∀ p,OkS (K' p)):SkW w0 pb lb kb vS S F nw' c' K' w':=
 ⟨hl,h.fl.fsT hx,fun i hi=>(hx.low i hi).trans (h.low i hi),ok⟩
theorem SkW.mono(h:SkW w0 pb lb kb vS S F nw c K w)(hc:c<=c')(h2:c'<=4611686018427387904):SkW w0 pb lb kb vS S F nw c' K w:=⟨h.lk.mono hc h2,h.fl,h.low,h.ok⟩
theorem SkW.few(h:SkW w0 pb lb kb vS S F nw c K w):nw<=c/\c<=4611686018427387904:=by obtain⟨E,hE⟩:=h.lk;exact hE.few
theorem eW(h:∀ p,OkS (K p)){s:St}(hs:OkS s)(p:Int):∀ q,OkS (bEI K p s q):=fun q=>by
 unfold bEI
 split
 ·exact hs
 ·exact h q
def aA8(w0:World)(pb lb kb:Nat)(vS:Value)(S:Sl)(p:Int)(nw c:Nat)(K:Kn)(X:St × St × Fl)(w:World):Ending->World->Prop:=fun e w'=>
 ∃ (r nw':Nat) (K':Kn),e= .returned (.int .i64 (r:Int))/\nw < r/\r<=nw'/\SkW w0 pb lb kb vS S X.2.2 nw' c K' w'/\K' p=X.1/\K' r=X.2.1/\(∀ q:Int,q≠p->q<=(nw:Int)->K' q=K q)/\Fu w0.heap.size w w'
def GCd(f:Nat)(w0:World)(pb:Nat)(vS:Value)(S:Sl)(al fl:List Tr)(val:Tr->Value)(t:Tr):Prop:=
 ∀ (lb kb:Nat) (F:Fl) (nw c:Nat) (K:Kn) (p:Int) (w:World),0<=p/\p<=(nw:Int)->c+2*mu t<=4611686018427387904->SkW w0 pb lb kb vS S F nw c K w->
  Calls Tryz.prog f #[.pointer (some ⟨lb,0,none⟩),.int .i64 p,val t] w (aA8 w0 pb lb kb vS S p nw (c+2*mu t) K (cdA (bCG al) fl t (K p) F) w)
theorem aU6{b o:Nat}{a:Nd}{l q:Tr}{s:St}(ht:a.tag=7):cdA lens fl (.node b o a l q) s F=(jW s a.op (hdR (exA lens fl s.isSome (cC s) l F).1,cV l) (hdR (exA lens fl s.isSome (cC s) q (exA lens fl s.isSome (cC s) l F).2).1,cV q),jW s (aAB a.op) (hdR (exA lens fl s.isSome (cC s) l F).1,cV l) (hdR (exA lens fl s.isSome (cC s) q (exA lens fl s.isSome (cC s) l F).2).1,cV q),(exA lens fl s.isSome (cC s) q (exA lens fl s.isSome (cC s) l F).2).2):=by
 conv=>lhs;unfold cdA
 rw[if_pos ht]
theorem aQC{op:Int}(ho:21<=op/\op<=26):21<=aAB op/\aAB op<=26:=by
 have hc:op=21\/op=22\/op=23\/op=24\/op=25\/op=26:=Oa
 rcases hc with rfl|rfl|rfl|rfl|rfl|rfl<;>decide
theorem aKM{par:Nat->Option Nat}{na:Nat}{b o:Nat}{a:Nd}{l q:Tr}(ht:a.tag=7)(ho:21<=a.op/\a.op<=26)(hi:IsT w0 (.node b o a l q))(k6:Vd par na 12 l)(k5:Vd par na 12 q)(hl:Ws 0 l/\GV 260 w0 pb vS S al fl bCH l)(hq:Ws 0 q/\GV 260 w0 pb vS S al fl bCH q):
 GCd 312 w0 pb vS S al fl cB (.node b o a l q):=by
 intro lb kb F nw c K p w hp hc h
 have hmu:1<=mu (.node b o a l q):=by
  unfold mu;rw[Oh,if_pos (.inl ht)];omega
 generalize mu (.node b o a l q)=M at*;have hfew:=h.few;have h3:0<=p/\p<=9223372036854775807:=Oa
 have h0:=aHF ht hi hl hq p h3 h;have hA:=aQ2 (lens:=bCG al) (fl:=fl) (alive:=(K p).isSome) hl.1 k6 (h.ok p).vs F;have hB:=aQ2 (lens:=bCG al) (fl:=fl) (alive:=(K p).isSome) hq.1 k5 (h.ok p).vs (exA (bCG al) fl (K p).isSome (cC (K p)) l F).2;rw[aU6 ht];obtain⟨m0,_,_⟩:=pW hi.2.2 ht;show Calls Tryz.prog 312 #[.pointer (some ⟨lb,0,none⟩),.int .i64 p,.pointer (some ⟨b,0,none⟩)] w _;generalize exA (bCG al) fl (K p).isSome (cC (K p)) q (exA (bCG al) fl (K p).isSome (cC (K p)) l F).2=y at*;generalize exA (bCG al) fl (K p).isSome (cC (K p)) l F=x at*;obtain⟨xl,F4⟩:=x;obtain⟨yl,F5⟩:=y;dsimp only at*;obtain⟨A,k0⟩:∃ A:Sd,A=(hdR xl,cV l):=⟨_,rfl⟩;obtain⟨B,h9⟩:∃ B:Sd,B=(hdR yl,cV q):=⟨_,rfl⟩;rw[<-k0,<-h9]at h0 ⊢;rw[<-k0]at hA;rw[<-h9]at hB;have k4:Hid _:=m0;have HS:Hid (SkW w0 pb lb kb vS S F nw c K w):=h;have y7:Hid (SdW A):=hA;have y4:Hid (SdW B):=hB;have h2:p≠(nw:Int)+1:=Oa
 generalize a.op=op at*;clear h hA hB m0 k0 h9 hl hq hi ht k6 k5;go_enter Tryz.func312,Tryz.ntmps312
 go_wp2_with fail
 refine h0.mono ?_;rintro e W ⟨rfl,f2,x2⟩;have S2:=HS.out.next x2 f2;obtain⟨W0,k8,b1,b2,HB,hz⟩:=pM W A B;have S3:Hid (SkW w0 pb lb kb vS S F5 nw c K W0):=S2.new HB;have U3:Hid (Fu w0.heap.size w W0):=(x2.trans (Fs.of HB S2.size false)).both;have y6:Hid _:=b1;have y5:Hid _:=b2;have k7:=aNV S3.out.lk p h3 Oa;rw[jQ A,jQ B];clear h0 f2 x2 S2 b1 b2 HB;go_upto_region 2 with fail
 rw[<-k8];clear k8;go_wp2_with fail
 refine k7.mono ?_;rintro e W4 ⟨rfl,h4,f4⟩;have S4:SkW w0 pb lb kb vS S F5 (nw+1) (c+2) (bEI K ((nw:Int)+1) (K p)) W4:=S3.out.step f4 h4 (eW S3.out.ok (S3.out.ok p) _);have k1:=f4.keep y6.out Ob (.inl Ob) (.inl Ob);have k2:=f4.keep y5.out Ob (.inl Ob) (.inl Ob);have h1:Hid _:=S4;have U4:Hid (Fu w0.heap.size w W4):=U3.out.trans f4.both;have y3:Hid _:=k1;have k9:Hid _:=k2;obtain⟨p0,p1,p2,pf⟩:=aG k1;obtain⟨q0,q1,q2,qf⟩:=aG k2;have c0:=aE S4.low k4.out;have hh:=aG8 S4.drew.lk p h3 op ho A B y7.out y4.out;rw[jQ A,jQ B]at hh;clear S4 h4 f4 k7 k1 k2;go_upto_region 3 with fail
 go_region_held3 (fun w'=>w'.cell? ⟨b,0,none⟩=some (.int .i64 op)/\w'.cell? ⟨W.heap.size,0,none⟩=some (.int .i64 A.1.1)/\w'.cell? ⟨W.heap.size,1,none⟩=some (.int .i64 A.1.2)/\w'.cell? ⟨W.heap.size,2,none⟩=some (.int .i64 A.2)/\w'.cell? ⟨W.heap.size+1,0,none⟩=some (.int .i64 B.1.1)/\w'.cell? ⟨W.heap.size+1,1,none⟩=some (.int .i64 B.1.2)/\w'.cell? ⟨W.heap.size+1,2,none⟩=some (.int .i64 B.2))
  (first
    |(refine⟨?_,?_,?_,?_,?_,?_,?_⟩<;>assumption)
    |go_keep)
  ((go_at_call 135;refine hh.mono ?_;rintro e Wa ⟨rfl,h5,f5⟩;have S5:=h1.out.drew.step f5 h5 (eW h1.out.ok (bF6 (h1.out.ok p) op A B) p);have d1:=f5.keep (w:=W4.drew) y3.out Ob (.inl Ob) (.inl Ob);have d2:=f5.keep (w:=W4.drew) k9.out Ob (.inl Ob) (.inl Ob);obtain⟨y0,y1,y2,yf⟩:=aG d1;obtain⟨z0,z1,z2,zf⟩:=aG d2;have d0:=aE S5.low k4.out))
 have k3:Hid _:=S5;have U5:Hid (Fu w0.heap.size w Wa):=U4.out.trans ((Fs.refl _ _ _).drew.trans f5).both;have y9:Hid _:=d1;have y8:Hid _:=d2;have h7:=aFX op;have h8:=aG8 S5.drew.lk ((nw:Int)+1) Oa (aAB op) (aQC ho) A B y7.out y4.out;rw[jQ A,jQ B]at h8;clear hh S5 h5 f5 d1 d2 p0 p1 p2 pf q0 q1 q2 qf c0 h1 U4 y3 k9 S3 U3 y6 y5;go_upto_region 4 with fail
 go_region_held3 (fun w'=>w'.cell? ⟨b,0,none⟩=some (.int .i64 op)/\w'.cell? ⟨W.heap.size,0,none⟩=some (.int .i64 A.1.1)/\w'.cell? ⟨W.heap.size,1,none⟩=some (.int .i64 A.1.2)/\w'.cell? ⟨W.heap.size,2,none⟩=some (.int .i64 A.2)/\w'.cell? ⟨W.heap.size+1,0,none⟩=some (.int .i64 B.1.1)/\w'.cell? ⟨W.heap.size+1,1,none⟩=some (.int .i64 B.1.2)/\w'.cell? ⟨W.heap.size+1,2,none⟩=some (.int .i64 B.2))
  (first
    |(refine⟨?_,?_,?_,?_,?_,?_,?_⟩<;>assumption)
    |go_keep)
  (first
    |(go_at_call 135;refine h8.mono ?_;rintro e Wb ⟨rfl,h6,f6⟩;have S6:=k3.out.drew.step f6 h6 (eW k3.out.ok (bF6 (k3.out.ok ((nw:Int)+1)) (aAB op) A B) ((nw:Int)+1));have e1:=f6.keep (w:=Wa.drew) y9.out Ob (.inl Ob) (.inl Ob);have e2:=f6.keep (w:=Wa.drew) y8.out Ob (.inl Ob) (.inl Ob);obtain⟨y0',y1',y2',yf'⟩:=aG e1;obtain⟨z0',z1',z2',zf'⟩:=aG e2;have e0:=aE S6.low k4.out)
    |(go_at_call 344;refine(h7 _ ho).mono ?_;rintro e Wz ⟨rfl,rfl⟩))
 have FIN:Hid (aA8 w0 pb lb kb vS S p nw (c+2*M) K (jW (K p) op A B,jW (K p) (aAB op) A B,F5) w (.returned (.int .i64 ((nw:Int)+1))) Wb):=by
  refine⟨nw+1,nw+1,_,Od,Oa,Qc _,S6.mono Oa hc,?_,?_,fun q hq hl=>?_,U5.out.trans ((Fs.refl _ _ _).drew.trans f6).both⟩
  ·rw[cE h2,bU,cE h2]
  ·show bEI _ ((nw:Int)+1) _ ((nw+1:Nat):Int)=_;rw[show((nw+1:Nat):Int)=(nw:Int)+1 by omega,bU,cE h2.symm,bU]
  ·rw[cE Oa,cE hq,cE Oa]
 clear S6 h6 f6 e1 e2 y0' y1' y2' yf' z0' z1' z2' zf' e0 y0 y1 y2 yf z0 z1 z2 zf d0 h8;go_wp2;go_ret;exact FIN.out
end
section
open Go.RowKit Go.Lib Go.Deep Go.Maps Go.ChangeMaps Go.MapKept
variable {w0:World} {pb lb kb vb xb nw nw' c c':Nat} {vS:Value} {K K':Kn} {S:Sl} {F F':Fl} {alive:Bool} {vs:Vr} {u w w':World} {m:Bool} {al fl:List Tr} {lens:Nat->Int}
theorem aU5{b o:Nat}{a:Nd}{l q:Tr}{s:St}(ht:a.tag=8)(ho:a.op=32):cdA lens fl (.node b o a l q) s F=((cdA lens fl q (cdA lens fl l s F).1 (cdA lens fl l s F).2.2).1,lF (cdA lens fl l s F).2.1 (cdA lens fl q (cdA lens fl l s F).1 (cdA lens fl l s F).2.2).2.1,(cdA lens fl q (cdA lens fl l s F).1 (cdA lens fl l s F).2.2).2.2):=by
 conv=>lhs;unfold cdA
 rw[Oh,if_pos ho]
theorem aU4{b o:Nat}{a:Nd}{l q:Tr}{s:St}(ht:a.tag=8)(ho:a.op=33):cdA lens fl (.node b o a l q) s F=(lF (cdA lens fl l s F).1 (cdA lens fl q (cdA lens fl l s F).2.1 (cdA lens fl l s F).2.2).1,(cdA lens fl q (cdA lens fl l s F).2.1 (cdA lens fl l s F).2.2).2.1,(cdA lens fl q (cdA lens fl l s F).2.1 (cdA lens fl l s F).2.2).2.2):=by
 conv=>lhs;unfold cdA
 rw[Oh,Oh]
theorem aQM{b o:Nat}{a:Nd}{l q:Tr}(ht:a.tag=8)(ho:a.op=32\/a.op=33)(hi:IsT w0 (.node b o a l q))(hl:Ws 1 l/\GCd 269 w0 pb vS S al fl bCH l)(hq:Ws 1 q/\GCd 269 w0 pb vS S al fl bCH q):
 GCd 313 w0 pb vS S al fl cB (.node b o a l q):=by
 intro lb kb F nw c K p w hp hc h
 have k2:mu (.node b o a l q)=1+mu l+mu q:=by
  conv=>lhs;unfold mu
  rw[Oh,if_pos (.inr (.inl ht))]
 rw[k2]at hc ⊢;obtain⟨k0,k4⟩:=hl;obtain⟨h9,k3⟩:=hq;obtain⟨ul,pl,k1⟩:=k0.val Ow;obtain⟨uq,pq,h8⟩:=h9.val Ow
 obtain⟨m0,m1,m2⟩:w0.cell? ⟨b,0,none⟩=some (.int .i64 a.op)/\w0.cell? ⟨b,1,none⟩=some (bCH l)/\w0.cell? ⟨b,2,none⟩=some (bCH q):=by
  obtain⟨cs,k5,h1,h2,h3⟩:=aI hi.2.2 (n:=8) ht;exact⟨Og k5 h1,Og k5 h2,Og k5 h3⟩
 have h4:=k4 lb kb F nw c K p w hp Oa h;rw[k1]at m1 h4;rw[h8]at m2;have y7:Hid _:=k3;have y4:Hid _:=h8;have y6:Hid _:=m0;have y5:Hid _:=m2;have c1:=aE h.low m1;have hp2:0<=p/\p<=9223372036854775807:=by have:=h.few;omega
 rcases ho with ho|ho
 ·rw[aU5 ht ho];show Calls Tryz.prog 313 #[.pointer (some ⟨lb,0,none⟩),.int .i64 p,.pointer (some ⟨b,0,none⟩)] w _;have HY:Hid (∀ s G,s=(cdA (bCG al) fl l (K p) F).1->G=(cdA (bCG al) fl l (K p) F).2.2->cdA (bCG al) fl q s G=cdA (bCG al) fl q (cdA (bCG al) fl l (K p) F).1 (cdA (bCG al) fl l (K p) F).2.2):=fun s G e1 e2=>by rw[e1,e2]
  rw[ho]at m0;have h6:Hid _:=m0;generalize cdA (bCG al) fl q (cdA (bCG al) fl l (K p) F).1 (cdA (bCG al) fl l (K p) F).2.2=y at*;generalize cdA (bCG al) fl l (K p) F=x at*;clear k4 k3 k1 h8 k0 h9 hi k2 ht m1 m2 m0 h ho y6;go_enter Tryz.func313,Tryz.ntmps313
  go_wp2_with fail
  refine h4.mono ?_;rintro e W ⟨r,nw1,K1,rfl,y1,z0,S1,e1,e2,e3,U1⟩;have z2:=S1.few;have h0:=y7.out lb kb x.2.2 nw1 (c+2*mu l) K1 p W Oa Oa S1;rw[y4.out,HY.out (K1 p) x.2.2 e1 rfl]at h0;have d0:=aE S1.low h6.out;have d2:=aE S1.low y5.out;have y0:Hid _:=U1;have y3:Hid _:=e1;have y2:Hid _:=e2;have k8:Hid _:=e3;clear S1 U1 e1 e2 e3 h4 c1;go_wp2_with fail
  refine h0.mono ?_;rintro e W2 ⟨r2,nw2,K2,rfl,y9,y8,S2,g1,g2,g3,U2⟩;have z1:=S2.few;have hj:=aC4 S2.lk (r:Int) (r2:Int) Oa Oa Oa Oa;have h5:Hid _:=S2;have k9:Hid (Fu w0.heap.size w W2):=y0.out.trans U2;have k7:Hid _:=g1;have k6:Hid _:=g2;have h7:Hid _:=g3;clear S2 U2 g1 g2 g3 h0 d0 d2;go_wp2_with fail
  refine hj.mono ?_;rintro e W3 ⟨rfl,h3,f3⟩;have S3:=h5.out.step f3 h3 (eW (eW h5.out.ok OkS.none (r2:Int)) (nP (h5.out.ok (r:Int)) (h5.out.ok (r2:Int))) (r:Int))
  have FIN:Hid (aA8 w0 pb lb kb vS S p nw (c+2*(1+mu l+mu q)) K (y.1,lF x.2.1 y.2.1,y.2.2) w (.returned (.int .i64 (r:Int))) W3):=by
   refine⟨r,nw2,_,rfl,y1,Oa,S3.mono Oa hc,?_,?_,fun q hq hl=>?_,k9.out.trans f3.both⟩
   ·rw[cE Oa,cE Oa];exact k7.out
   ·rw[bU,k6.out,h7.out (r:Int) Oa Oa,y2.out]
   ·rw[cE Oa,cE Oa,h7.out q hq Oa];exact k8.out q hq hl
  clear S3 h3 f3 hj;go_wp2;go_ret;exact FIN.out
 ·rw[aU4 ht ho];show Calls Tryz.prog 313 #[.pointer (some ⟨lb,0,none⟩),.int .i64 p,.pointer (some ⟨b,0,none⟩)] w _;have HY:Hid (∀ s G,s=(cdA (bCG al) fl l (K p) F).2.1->G=(cdA (bCG al) fl l (K p) F).2.2->cdA (bCG al) fl q s G=cdA (bCG al) fl q (cdA (bCG al) fl l (K p) F).2.1 (cdA (bCG al) fl l (K p) F).2.2):=fun s G e1 e2=>by rw[e1,e2]
  rw[ho]at m0;have h6:Hid _:=m0;generalize cdA (bCG al) fl q (cdA (bCG al) fl l (K p) F).2.1 (cdA (bCG al) fl l (K p) F).2.2=y at*;generalize cdA (bCG al) fl l (K p) F=x at*;clear k4 k3 k1 h8 k0 h9 hi k2 ht m1 m2 m0 h ho y6;go_enter Tryz.func313,Tryz.ntmps313
  go_wp2_with fail
  refine h4.mono ?_;rintro e W ⟨r,nw1,K1,rfl,y1,z0,S1,e1,e2,e3,U1⟩;have z2:=S1.few;have h0:=y7.out lb kb x.2.2 nw1 (c+2*mu l) K1 (r:Int) W Oa Oa S1;rw[y4.out,HY.out (K1 (r:Int)) x.2.2 e2 rfl]at h0;have d0:=aE S1.low h6.out;have d2:=aE S1.low y5.out;have y0:Hid _:=U1;have y3:Hid _:=e1;have y2:Hid _:=e2;have k8:Hid _:=e3;clear S1 U1 e1 e2 e3 h4 c1;go_wp2_with fail
  refine h0.mono ?_;rintro e W2 ⟨r2,nw2,K2,rfl,y9,y8,S2,g1,g2,g3,U2⟩;have z1:=S2.few;have hj:=aC4 S2.lk p (r:Int) Oa Oa Oa Oa;have h5:Hid _:=S2;have k9:Hid (Fu w0.heap.size w W2):=y0.out.trans U2;have k7:Hid _:=g1;have k6:Hid _:=g2;have h7:Hid _:=g3;clear S2 U2 g1 g2 g3 h0 d0 d2;go_wp2_with fail
  refine hj.mono ?_;rintro e W3 ⟨rfl,h3,f3⟩;have S3:=h5.out.step f3 h3 (eW (eW h5.out.ok OkS.none (r:Int)) (nP (h5.out.ok p) (h5.out.ok (r:Int))) p)
  have FIN:Hid (aA8 w0 pb lb kb vS S p nw (c+2*(1+mu l+mu q)) K (lF x.1 y.1,y.2.1,y.2.2) w (.returned (.int .i64 (r2:Int))) W3):=by
   refine⟨r2,nw2,_,rfl,Oa,Oa,S3.mono Oa hc,?_,?_,fun q hq hl=>?_,k9.out.trans f3.both⟩
   ·rw[bU,k7.out,h7.out p Oa Oa,y3.out]
   ·rw[cE Oa,cE Oa,k6.out]
   ·rw[cE Oa,cE Oa,h7.out q Oa Oa];exact k8.out q hq hl
  clear S3 h3 f3 hj;go_wp2;go_ret;exact FIN.out
theorem aT8{b o:Nat}{a:Nd}{l q:Tr}(hw:Ws 1 (.node b o a l q))(h7:a.tag=7->GCd 312 w0 pb vS S al fl cB (.node b o a l q))(h8:a.tag=8->GCd 313 w0 pb vS S al fl cB (.node b o a l q)):
 GCd 269 w0 pb vS S al fl bCH (.node b o a l q):=by
 intro lb kb F nw c K p w hp hc h;obtain⟨h6,sx,sy,h5,k0,h9⟩:=hw.parts
 have ht:a.tag=7\/a.tag=8:=by
  by_cases h1:a.tag=7
  ·exact .inl h1
  by_cases h2:a.tag=8
  ·exact .inr h2
  ·exfalso;simp[sig,h1,h2]at h5
 have h4:bCH (.node b o a l q)= .iface (bZ a.tag) (.pointer (some ⟨b,0,none⟩)):=Oh;rw[h4];clear h4 h5;have t1:=fun u v=>pU u v w;have t2:=fun u v=>uF u v w;rcases ht with k7|k8
 ·have h0:=h7 k7 lb kb F nw c K p w hp hc h;have h3:Calls Tryz.prog 312 #[.pointer (some ⟨lb,0,none⟩),.int .i64 p,.pointer (some ⟨b,0,none⟩)] w _:=h0;rw[show bZ a.tag=253 by rw[k7];rfl];generalize cdA (bCG al) fl (.node b o a l q) (K p) F=y at*;clear h7 h8 hw k0 h9 h k7 h0 h6;go_enter Tryz.func269,Tryz.ntmps269
  go_wp2_with fail
  refine h3.mono ?_;rintro e W2 ⟨r,nw1,K1,rfl,hG⟩;have HG:Hid (aA8 w0 pb lb kb vS S p nw (c+2*mu (.node b o a l q)) K y w (.returned (.int .i64 (r:Int))) W2):=⟨r,nw1,K1,rfl,hG⟩;clear hG;go_wp2;go_ret;exact HG.out
 ·have h0:=h8 k8 lb kb F nw c K p w hp hc h;have h3:Calls Tryz.prog 313 #[.pointer (some ⟨lb,0,none⟩),.int .i64 p,.pointer (some ⟨b,0,none⟩)] w _:=h0;rw[show bZ a.tag=407 by rw[k8];rfl];generalize cdA (bCG al) fl (.node b o a l q) (K p) F=y at*;clear h7 h8 hw k0 h9 h k8 h0 h6;go_enter Tryz.func269,Tryz.ntmps269
  go_wp2_with fail
  refine h3.mono ?_;rintro e W2 ⟨r,nw1,K1,rfl,hG⟩;have HG:Hid (aA8 w0 pb lb kb vS S p nw (c+2*mu (.node b o a l q)) K y w (.returned (.int .i64 (r:Int))) W2):=⟨r,nw1,K1,rfl,hG⟩;clear hG;go_wp2;go_ret;exact HG.out
end
section
open Go.RowKit Go.Lib Go.Deep Go.Maps Go.ChangeMaps Go.MapKept
variable {w0:World} {mb:Nat} {g g':Nat->Bool} {u w w':World} {m:Bool}
structure Fb(b:Nat)(w w':World):Prop where
 os:w'.os=w.os
 tape:w'.tape=w.tape
 output:w'.output=w.output
 size:w.heap.size<=w'.heap.size
 oth:∀ (k:Nat),k < w.heap.size->k≠b->w'.heap[k]?=w.heap[k]?
theorem Fb.refl(b:Nat)(w:World):Fb b w w:=⟨rfl,rfl,rfl,Qc _,fun _ _ _=>rfl⟩
theorem Fb.trans{b:Nat}(h:Fb b u w)(k:Fb b w w'):Fb b u w':=
 ⟨k.os.trans h.os,k.tape.trans h.tape,k.output.trans h.output,Qd h.size k.size,fun i hi hn=>(k.oth i (Oi h.size) hn).trans (h.oth i hi hn)⟩
theorem Fb.drew{b:Nat}(h:Fb b u w):Fb b u w.drew:=⟨h.os,h.tape,h.output,h.size,h.oth⟩
theorem Fb.set{b:Nat}(h:Fb b u w)(o:Nat)(x:Value):Fb b u (w.setCell ⟨b,o,none⟩ x):=
 ⟨h.os,h.tape,h.output,by have:=h.size;simp[World.setCell];omega,fun i hi hn=>(Om hn).trans (h.oth i hi hn)⟩
theorem eG.eq(h:eG mb g w)(e:∀ i,i < 12->g' i=g i):eG mb g' w:=by
 obtain⟨cs,hc,h1⟩:=h;exact⟨cs,hc,fun i hi=>by rw[e i hi];exact h1 i hi⟩
theorem eG.put(h:eG mb g w)(j:Nat):eG mb (fun i=>g i||decide (j=i)) (w.setCell ⟨mb,j,none⟩ (.bool true)):=by
 obtain⟨cs,hc,h1⟩:=h;refine⟨_,aM _ hc,fun i hi=>?_⟩
 by_cases e:j=i
 ·subst e;rw[nX (h1 j hi)];simp
 ·rw[bT e (h1 i hi)];simp[e]
theorem lY:∀ (t:Tr) (s:Nat),s=0\/s=1\/s=3\/s=13\/s=99->Ws s t->∀ i,dR t i=false:=by
 intro t
 induction t with
 |nil=>intro _ _ _ _;rfl
 |node b o a l q ihl ihq=>
  intro s hs hw i;unfold Ws at hw;obtain⟨_,_,hw⟩:=hw;cases hsig:sig s a.tag with
  |none=>rw[hsig]at hw;exact hw.elim
  |some p=>
   obtain⟨x,y⟩:=p;rw[hsig]at hw
   have h0:a.tag≠9/\(x=0\/x=1\/x=3\/x=13\/x=99)/\(y=0\/y=1\/y=3\/y=13\/y=99):=by
    unfold sig at hsig;rcases hs with rfl|rfl|rfl|rfl|rfl<;>simp at hsig
    ·repeat' split at hsig
     all_goals simp at hsig
     all_goals omega
    ·repeat' split at hsig
     all_goals simp at hsig
     all_goals omega
    ·omega
    ·omega
   obtain⟨h1,hx,hy⟩:=h0;unfold dR;rw[if_neg h1,ihl x hx hw.1 i,ihq y hy hw.2 i];rfl
theorem mQ{b o:Nat}{a:Nd}{l q:Tr}{i:Nat}(h:a.tag≠9):dR (.node b o a l q) i=(dR l i||dR q i):=if_neg h
theorem aQ0{b o:Nat}{a:Nd}{l q:Tr}{i:Nat}(h:a.tag=9):dR (.node b o a l q) i=decide (a.which.toNat=i):=if_pos h
def GM(w0:World)(t:Tr):Prop:=∀ mb g w,w0.heap.size<=mb->(∀ i,i < w0.heap.size->w.heap[i]?=w0.heap[i]?)->eG mb g w->
 Calls Tryz.prog 316 #[.pointer (some ⟨mb,0,none⟩),bCH t] w fun e w'=>e= .returned (.tuple #[])/\eG mb (fun i=>g i||dR t i) w'/\Fb mb w w'
def GMs(w0:World):Tr->Prop
 | .nil=>True
 | .node _ _ a _ q=>(a.tag=9->0<=a.which/\a.which < 12)/\(a.tag=11->∃ x y z p r,q= .node x y z p r/\z.tag=18/\Ws 4 p/\Ws 4 r/\GM w0 p/\GM w0 r)/\(a.tag=12->Ws 4 q/\GM w0 q)
theorem aE7{t:Tr}(k6:Ws 4 t)(hi:IsT w0 t)(hA:fE (fun e=>Ws 2 e/\GMs w0 e) (bCF t)):GM w0 t:=by
 intro mb g w y5 k2 hB;obtain⟨ao,cp,z2⟩:=k6.lstval Ow;have hlen:=fB Ow k6
 have z4:∀ i,dR t i=dR (bCF t) i:=fun i=>by
  rcases k6.lst (.inr Ox)with rfl|⟨b,o,a,l,rfl,ht,_⟩
  ·rfl
  ·rw[mQ Oa];show(dR l i||false)=_;rw[Bool.or_false];rfl
 rw[z2];obtain⟨T,hT⟩:∃ T:Nat->Bool,T=fun i=>g i||dR t i:=⟨_,rfl⟩;rw[<-hT];have z9:Hid (Ws 4 t):=k6;have HI:Hid (IsT w0 t):=hi;have L0:∃ G:Nat->Bool,(∀ i,T i=(G i||dR (aL 0 (bCF t)) i))/\eG mb G w/\Fb mb w w:=⟨g,fun i=>by rw[hT];show(_||_)=_;rw[z4];rfl,hB,Fb.refl _ _⟩;have y9:Hid (∀ i,i < w0.heap.size->w.heap[i]?=w0.heap[i]?):=k2
 have j0:Hid (w0.heap.size<=w.heap.size):=by
  rcases Qk w.heap.size w0.heap.size with h|h
  ·have:=k2 w.heap.size h;rw[Array.getElem?_eq_none Ol,Array.getElem?_eq_getElem h]at this;cases this
  ·exact h
 clear k6 hi hT z4 hB k2;go_enter Tryz.func316,Tryz.ntmps316
 go_wp2_with fail
 go_loopg [11] (aD t) (fun m v wr=>∃ i:Nat,v= .int .i64 i/\i<=aD t/\aD t<=i+m/\∃ G:Nat->Bool,(∀ j,T j=(G j||dR (aL i (bCF t)) j))/\eG mb G wr/\Fb mb w wr)
 case atStart=>exact⟨0,rfl,Qe _,Oa,L0⟩
 case round=>
  clear L0;obtain⟨i,rfl,hle,hm,G,hG,hB,hx⟩:=hrel
  by_cases z6:i < aD t
  ·have y6:(i:Int) < (aD t:Int):=Oa
   obtain⟨b2,o2,a2,e2,r2,hd,y0⟩:=dK i (bCF t) (by rw[<-aT];exact z6);have y8:=fE.drop i _ hA;rw[hd]at y8
   have hG:∀ j,T j=(G j||(dR e2 j||dR r2 j)):=fun j=>by
    obtain⟨y2,_⟩:=y8;rw[hG j,hd,mQ Oa]
   obtain⟨y2,⟨hE,hS⟩,_⟩:=y8;have h7:∀ W,Fb mb w W->∀ k,k < w0.heap.size->W.heap[k]?=w0.heap[k]?:=fun W hW k hk=>(hW.oth k (Oi j0.out) Oa).trans (y9.out k hk);have k4:Hid _:=h7;obtain⟨m,rfl⟩:=Oj gk
   have FIN:Hid (∀ W G',(∀ j,j < 12->G' j=(G j||dR e2 j))->eG mb G' W->Fb mb w W->∃ i':Nat,Value.int .i64 ((i:Int)+1)= .int .i64 i'/\i'<=aD t/\aD t<=i'+m/\∃ G:Nat->Bool,(∀ j,T j=(G j||dR (aL i' (bCF t)) j))/\eG mb G W/\Fb mb w W):=fun W G' e hB hx=>
    ⟨i+1,Od,Oa,Oa,fun j=>G j||dR e2 j,fun j=>by rw[hG j,y0,Bool.or_assoc],hB.eq fun j hj=>(e j hj).symm,hx⟩
   cases e2 with
   |nil=>exact absurd hE (by unfold Ws bK;omega)
   |node b o a l q=>
    have h9:=jR hE;obtain⟨gg,rfl,h5⟩:=gQ (H:=0) Ow z9.out HI.out (Fr.refl 0 F0 w0) F0.body z2 hd ⟨b,o,a,l,q,rfl,Oa,Oa⟩;have h6:bCH (.node b o a l q)= .iface (bZ a.tag) (.pointer (some ⟨b,0,none⟩)):=Oh;rw[h6]at h5;have h5:=aE (h7 wr hx) h5
    have k8:IsT w0 (.node b o a l q):=by
     have h1:IsT w0 (bCF t):=by
      cases t with
      |nil=>trivial
      |node=>exact HI.out.1
     have h2:=nQ i _ h1;rw[hd]at h2;exact h2.1
    obtain⟨s9,s11,s12⟩:=hS;obtain⟨_,sx,sy,h3,h8,k1⟩:=hE.parts;have own:=k8.2.2;have ta9:=kG (bZ a.tag) (.pointer (some ⟨b,0,none⟩)) wr;have ta11:=pB (bZ a.tag) (.pointer (some ⟨b,0,none⟩)) wr;have ta12:=iG (bZ a.tag) (.pointer (some ⟨b,0,none⟩)) wr;have HX:Hid (Fb mb w wr):=hx;have HB:Hid (eG mb G wr):=hB
    by_cases k9:a.tag=9
    ·obtain⟨j,hj⟩:∃ j:Nat,a.which=j:=⟨a.which.toNat,Oi (s9 k9)⟩;have y7:j < 12:=by have:=s9 k9;omega
     have hjI:0<=(j:Int)/\(j:Int) < 12:=Oa
     have m0:w0.cell? ⟨b,2,none⟩=some (.int .i64 (j:Int)):=by
      obtain⟨cs,hc,hn,_⟩:=aI own (n:=9) k9;rw[cell_of_row _ _ _ _ _ _ hc,<-hj];exact hn.2.2
     have c0:=aE (h7 wr hx) m0;have hset:=hB.at_ y7
     have hfz:∀ o,wr.frozen? ⟨mb,o,none⟩=false:=by
      obtain⟨cs,hc,_⟩:=hB;intro o;simp[World.frozen?,hc]
     have fin:=FIN.out ((wr.setCell ⟨mb,j,none⟩ (.bool true)).drew) _ (fun i _=>by rw[aQ0 k9,hj,Int.toNat_natCast]) (hB.put j) (hx.set j _).drew;rw[show bZ a.tag=326 by rw[k9];rfl]at ta9 ta11 ta12 h5;clear s9 s11 s12 h3 h8 k1 own k8 hE hd y0 h6 h9 k9 hG h7 hB hx hj m0 y2 FIN HX HB k4 hA;go_upto_region 6 with fail
     go_region
     all_goals go_wp2
     all_goals go_roundg m
     case rel=>exact fin
     case measure=>omega
    by_cases k11:a.tag=11
    ·obtain⟨x,y,z,p,r,rfl,hz,wp,wr',gp,gr⟩:=s11 k11;obtain⟨ap,cpp,z1⟩:=wp.lstval Ow;obtain⟨ar,cpr,y4⟩:=wr'.lstval Ow
     have k7:∀ j,dR l j=false:=by
      rw[k11]at h3;cases h3;exact lY l 1 Ow h8
     have h4:∀ j,dR (.node b o a l (.node x y z p r)) j=(dR p j||dR r j):=fun j=>by
      rw[mQ Oa,k7 j,mQ Oa,Bool.false_or]
     obtain⟨m1,m2⟩:w0.cell? ⟨b,1,none⟩=some (bCH p)/\w0.cell? ⟨b,2,none⟩=some (bCH r):=by
      obtain⟨cs,hc,h0,x',y',z',p',r',e,h1,h2⟩:=aI own (n:=11) k11;cases e;exact⟨Og hc h1,Og hc h2⟩
     have k3:=gp mb G wr y5 (h7 wr hx) hB;rw[z1]at m1 k3;rw[y4]at m2;have j1:Hid _:=m2;have c1:=aE (h7 wr hx) m1
     have j2:Hid (∀ W G',Fb mb w W->eG mb G' W->Calls Tryz.prog 316 #[.pointer (some ⟨mb,0,none⟩),.slice ar (aD r) cpr] W fun e w'=>e= .returned (.tuple #[])/\eG mb (fun i=>G' i||dR r i) w'/\Fb mb W w'):=fun W G' hW z7=>by
      have:=gr mb G' W y5 (k4.out W hW) z7;rw[y4]at this;exact this
     have y3:Hid _:=h4;rw[show bZ a.tag=332 by rw[k11];rfl]at ta9 ta11 ta12 h5;clear s9 s11 s12 h3 h8 k1 own k8 hE hd y0 h6 h9 k9 hG h7 hB hx m1 m2 y2 hA k11 wp wr' gp gr z1 y4 k7 h4 hz;go_wp2_with fail
     refine k3.mono ?_;rintro e W2 ⟨rfl,y1,k5⟩;have k0:=HX.out.trans k5;have z3:=j2.out W2 _ k0 y1;have c2:=aE (k4.out W2 k0) j1.out;have z8:Hid _:=k0;clear y1 k5 k0 k3 c1;go_wp2_with fail
     refine z3.mono ?_;rintro e W3 ⟨rfl,z5,k0⟩;have fin:=FIN.out W3 _ (fun j _=>by rw[y3.out j,Bool.or_assoc]) z5 (z8.out.trans k0);clear z5 k0 z3 c2 FIN y3 HX HB k4;go_wp2;go_roundg m
     case rel=>exact fin
     case measure=>omega
    by_cases k12:a.tag=12
    ·obtain⟨wq,gq⟩:=s12 k12;obtain⟨aq,cpq,z0⟩:=wq.lstval Ow
     have k7:∀ j,dR l j=false:=by
      rw[k12]at h3;cases h3;exact lY l 1 Ow h8
     have h4:∀ j,dR (.node b o a l q) j=dR q j:=fun j=>by
      rw[mQ Oa,k7 j,Bool.false_or]
     have m1:w0.cell? ⟨b,1,none⟩=some (bCH q):=by
      obtain⟨cs,hc,h0,h1⟩:=aI own (n:=12) k12;rw[cell_of_row _ _ _ _ _ _ hc];exact h1
     have k3:=gq mb G wr y5 (h7 wr hx) hB;rw[z0]at m1 k3;have c1:=aE (h7 wr hx) m1;have y3:Hid _:=h4;rw[show bZ a.tag=338 by rw[k12];rfl]at ta9 ta11 ta12 h5;clear s9 s11 s12 h3 h8 k1 own k8 hE hd y0 h6 h9 k9 hG h7 hB hx m1 y2 hA k11 k12 wq gq z0 k7 h4;go_wp2_with fail
     refine k3.mono ?_;rintro e W2 ⟨rfl,y1,k5⟩;have fin:=FIN.out W2 _ (fun j _=>by rw[y3.out j]) y1 (HX.out.trans k5);clear y1 k5 k3 c1 FIN y3 HX HB k4;go_wp2;go_roundg m
     case rel=>exact fin
     case measure=>omega
    have tags:a.tag=10\/a.tag=13\/a.tag=14:=Oa
    have h4:∀ j,dR (.node b o a l q) j=false:=fun j=>by
     rw[mQ k9];rcases tags with k|k|k
     ·rw[k]at h3;cases h3;rw[lY l 0 Ox h8,lY q 0 Ox k1];rfl
     ·rw[k]at h3;cases h3;rw[lY l 0 Ox h8,lY q 99 Oa k1];rfl
     ·rw[k]at h3;cases h3;rw[lY l 0 Ox h8,lY q 99 Oa k1];rfl
    have fin:=FIN.out wr G (fun j _=>by rw[h4 j,Bool.or_false]) hB hx;have n9:bZ a.tag≠326:=by rcases tags with k|k|k<;>rw[k]<;>decide
    have n11:bZ a.tag≠332:=by rcases tags with k|k|k<;>rw[k]<;>decide
    have n12:bZ a.tag≠338:=by rcases tags with k|k|k<;>rw[k]<;>decide
    rw[if_neg n9,decide_eq_false n9]at ta9;rw[if_neg n11,decide_eq_false n11]at ta11;rw[if_neg n12,decide_eq_false n12]at ta12;generalize bZ a.tag=ty at*;clear s9 s11 s12 h3 h8 k1 own k8 hE hd y0 h6 h9 k9 hG h7 hB hx y2 hA k11 k12 h4 tags n9 n11 n12 FIN HX HB k4;go_wp2;go_roundg m
    case rel=>exact fin
    case measure=>omega
  ·have y6: ¬(i:Int) < (aD t:Int):=Oa
   have FW:Hid (eG mb T wr/\Fb mb w wr):=by
    refine⟨hB.eq fun j _=>?_,hx⟩;rw[hG j,show i=aO (bCF t)by rw[<-aT];omega,eS];exact Bool.or_false _
   clear hB hx hG hA;go_wp2;go_end0
   exact⟨rfl,FW.out⟩
end
section
open Go.RowKit Go.Lib Go.Deep Go.Maps Go.ChangeMaps Go.MapKept
variable {w0:World} {pb lb kb vb xb nw nw' c c':Nat} {vS:Value} {K K':Kn} {S:Sl} {F F':Fl} {alive:Bool} {vs:Vr} {u w w':World} {m:Bool} {al fl:List Tr} {lens:Nat->Int}
def pO(w0:World)(pb lb kb:Nat)(vS:Value)(S:Sl)(p:Int)(nw c:Nat)(K:Kn)(X:St × Fl)(w:World):Ending->World->Prop:=fun e w'=>
 e= .returned (.tuple #[])/\∃ (nw':Nat) (K':Kn),nw<=nw'/\SkW w0 pb lb kb vS S X.2 nw' c K' w'/\K' p=X.1/\(∀ q:Int,q≠p->q<=(nw:Int)->K' q=K q)/\Fu w0.heap.size w w'
def GSk(f:Nat)(w0:World)(pb:Nat)(vS:Value)(S:Sl)(al fl:List Tr)(val:Tr->Value)(t:Tr):Prop:=
 ∀ (lb kb:Nat) (F:Fl) (nw c:Nat) (K:Kn) (p:Int) (w:World),0<=p/\p<=(nw:Int)->c+2*mu t<=4611686018427387904->SkW w0 pb lb kb vS S F nw c K w->
  Calls Tryz.prog f #[.pointer (some ⟨lb,0,none⟩),.int .i64 p,val t] w (pO w0 pb lb kb vS S p nw (c+2*mu t) K (stA (bCG al) fl t (K p) F) w)
theorem aQF{t:Tr}(h:Ws 4 t):mu t=mu (bCF t):=by
 rcases h.lst (.inr Ox)with rfl|⟨b,o,a,l,rfl,ht,_⟩
 ·rfl
 ·conv=>lhs;unfold mu
  rw[Oh,Oh];show 0+mu l+0=mu l;omega
theorem aU1{b o:Nat}{a:Nd}{e q:Tr}(h:a.tag=15):mu (.node b o a e q)=mu e+mu q:=by
 conv=>lhs;unfold mu
 rw[Oh,Oh];omega
theorem aM3{t:Tr}{s:St}(h:Ws 4 t):stA lens fl t s F=stA lens fl (bCF t) s F:=by
 rcases h.lst (.inr Ox)with rfl|⟨b,o,a,l,rfl,ht,_⟩
 ·rfl
 ·rw[qT (.inl ht)];rfl
structure LpK(w0:World)(pb lb kb:Nat)(vS:Value)(S:Sl)(al fl:List Tr)(p:Int)(nw c:Nat)(K:Kn)(T:St × Fl)(L:Tr)(w:World)(nw1 c1:Nat)(K1:Kn)(F1:Fl)(wr:World):Prop where
 res:T=stA (bCG al) fl L (K1 p) F1
 sk:SkW w0 pb lb kb vS S F1 nw1 c1 K1 wr
 ge:nw<=nw1
 cs:c1+2*mu L=c
 oth:∀ q:Int,q≠p->q<=(nw:Int)->K1 q=K q
 fu:Fu w0.heap.size w wr
theorem aI7{t:Tr}(h8:Ws 4 t)(hi:IsT w0 t)(hA:fE (fun e=>Ws 2 e/\GSk 207 w0 pb vS S al fl bCH e) (bCF t)):GSk 136 w0 pb vS S al fl bCH t:=by
 intro lb kb F nw c K p w hp hc h;obtain⟨ao,cp,k5⟩:=h8.lstval Ow;have hlen:=fB Ow h8;rw[aM3 h8,k5];rw[aQF h8]at hc ⊢;obtain⟨T,hT⟩:∃ T,T=stA (bCG al) fl (bCF t) (K p) F:=⟨_,rfl⟩;rw[<-hT];obtain⟨C,hC⟩:∃ C,C=c+2*mu (bCF t):=⟨_,rfl⟩;rw[<-hC]at hc ⊢;have y0:Hid (Ws 4 t):=h8;have HI:Hid (IsT w0 t):=hi;have L0:∃ nw1 c1 K1 F1,LpK w0 pb lb kb vS S al fl p nw C K T (aL 0 (bCF t)) w nw1 c1 K1 F1 w:=⟨nw,c,K,F,hT,h,Qc _,hC.symm,fun _ _ _=>rfl,Fu.refl _ _⟩;clear h8 hi hT hC h;go_enter Tryz.func136,Tryz.ntmps136
 go_wp2_with fail
 go_loopg [10] (aD t) (fun m v wr=>∃ i:Nat,v= .int .i64 i/\i<=aD t/\aD t<=i+m/\∃ nw1 c1 K1 F1,LpK w0 pb lb kb vS S al fl p nw C K T (aL i (bCF t)) w nw1 c1 K1 F1 wr)
 case atStart=>exact⟨0,rfl,Qe _,Oa,L0⟩
 case round=>
  clear L0;obtain⟨i,rfl,hle,hm,nw1,c1,K1,F1,LP⟩:=hrel
  by_cases k9:i < aD t
  ·have k1:(i:Int) < (aD t:Int):=Oa
   obtain⟨b2,o2,a2,e2,r2,hd,k6⟩:=dK i (bCF t) (by rw[<-aT];exact k9);have k7:=fE.drop i _ hA;rw[hd]at k7;obtain⟨k2,⟨hE,hG⟩,_⟩:=k7
   obtain⟨gg,rfl,h0⟩:=gQ (H:=0) Ow y0.out HI.out (Fr.refl 0 F0 w0) F0.body k5 hd (by
    cases e2 with
    |nil=>exact absurd hE (by unfold Ws bK;omega)
    |node b o a l r=>
     have:=jR hE;exact⟨b,o,a,l,r,rfl,Oa,Oa⟩)
   obtain⟨u,p',k0⟩:=hE.val Ov;rw[k0]at h0;have h0:=aE LP.sk.low h0;have h9:=LP.cs;have h7:=LP.res;rw[hd,aU1 k2]at h9;rw[hd,sY k2]at h7;have hnw:=LP.ge;have h6:=hG lb kb F1 nw1 c1 K1 p wr Oa Oa LP.sk;rw[k0]at h6;have k8:Hid _:=h7;have k3:Hid _:=LP;have k4:Hid (aL (i+1) (bCF t)=r2):=k6;generalize stA (bCG al) fl e2 (K1 p) F1=y at*;clear h7 LP hd k6 hE hG k2 k0 hA;go_wp2_with fail
   refine h6.mono ?_;rintro e W ⟨rfl,nw2,K2,h1,h2,h3,h4,h5⟩;obtain⟨m,rfl⟩:=Oj gk
   have fin:∃ i':Nat,Value.int .i64 ((i:Int)+1)= .int .i64 i'/\i'<=aD t/\aD t<=i'+m/\∃ nw1 c1 K1 F1,LpK w0 pb lb kb vS S al fl p nw C K T (aL i' (bCF t)) w nw1 c1 K1 F1 W:=
    ⟨i+1,Od,Oa,Oa,nw2,c1+2*mu e2,K2,y.2,by rw[k4.out,h3];exact k8.out,h2,Oa,by rw[k4.out];omega,fun q hq hl=>(h4 q hq Oa).trans (k3.out.oth q hq hl),k3.out.fu.trans h5⟩
   clear h1 h2 h3 h4 h5 k3 k8 k4 h6 h0;go_wp2;go_roundg m
   case rel=>exact fin
   case measure=>omega
  ·have k1: ¬(i:Int) < (aD t:Int):=Oa
   have FIN:Hid (pO w0 pb lb kb vS S p nw C K T w (.returned (.tuple #[])) wr):=by
    have e:aL i (bCF t)= .nil:=by rw[show i=aO (bCF t)by rw[<-aT];omega,eS]
    have h9:=LP.cs;have h7:=LP.res;rw[e]at h9 h7;have h7:T=(K1 p,F1):=h7;have h9:c1=C:=by have:mu (.nil:Tr)=0:=rfl;omega
    subst h9;rw[h7];exact⟨rfl,nw1,K1,LP.ge,LP.sk,rfl,LP.oth,LP.fu⟩
   clear LP hA;go_wp2;go_end0
   exact FIN.out
end
end Go.Proofs.YtikffmloeifkpaaGreatDoor
