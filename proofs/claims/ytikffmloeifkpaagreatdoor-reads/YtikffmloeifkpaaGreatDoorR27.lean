/- Contracts. -/
import Derived.Test.YtikffmloeifkpaaGreatDoorR26
set_option maxHeartbeats 16000000
set_option maxRecDepth 100000
namespace Go.Proofs.YtikffmloeifkpaaGreatDoor
open Go.RowKit Go.Lib Go.Deep Go.ChangeMaps Go.MapKept Tryz
section
variable {H O U gw cw B X:Nat} {T:List Tok} {st:QS} {Y vI:Value} {V:List V3} {w:World} {a:NQ} {v:V3}
theorem Bx.e(h:Bx H O U gw Y vI V B X a v w)(p:Int):Bx H O U gw Y vI V B X {a with at_:=p} v (w.setCell ⟨X,1,none⟩ (Qc p)):=
 have m:NdW H (w.setCell ⟨X,1,none⟩ (Qc p)) a v:=h.n.move (fun _ b=>Om (h.ne b))
 ⟨aM _ h.c,h.o,h.m,⟨m.k,m.p,m.h⟩,h.u⟩
theorem Bx.h(h:Bx H O U gw Y vI V B X a v w)(s:ByteArray):Bx H O U gw Y vI V B X {a with s:=s} v (w.setCell ⟨X,2,none⟩ (.string s)):=
 have m:NdW H (w.setCell ⟨X,2,none⟩ (.string s)) a v:=h.n.move (fun _ b=>Om (h.ne b))
 ⟨aM _ h.c,h.o,h.m,⟨m.k,m.p,m.h⟩,h.u⟩
theorem cA4(K:Nat)(hK:K<=40000)(E C B:QS->QS × Int)(gE:Grs E)(gC:Grn 3 C)(gB:Grs B)(N:Nat)(hE:bN1 H O U gw cw T vI 290 #[Qd O] E T.length)(hC:bMW 40000 H O U gw cw T vI 331 #[Qd O] C T.length)(hB:bMW K H O U gw cw T vI 171 #[Qd O] B N):bYN K H O U gw cw T vI (bMF T E C B) (N+1):=by
 intro st Y V w c m3 f7 h hN hr;have HE:Hid (bN1 H O U gw cw T vI 290 #[Qd O] E T.length):=hE;have HB:Hid (bMW K H O U gw cw T vI 171 #[Qd O] B N):=hB;have HC:Hid (bMW 40000 H O U gw cw T vI 331 #[Qd O] C T.length):=hC;have m4:bKZ T (bKV T st)<=N:=Qm ((Gr.b T st).need (T:=T)) Oa;have g6:(dD T st.i).d≠0->(bKV T st).i<=T.length->bLS T (bKV T st) c 8:=fun o hl=>hr.b o hl;clear hE hB hC hN;obtain⟨p0,p1,_,_,_,_,_⟩:=h.cells;obtain⟨x0,x1,x2,x3⟩:=h.w4;have h0:=h.lt;have f8:=h.few;have i1:=h.lt_pb;have f9:gw < w.1.size:=Qp w _ x0;have hi:0<=(st.i:Int)/\(st.i:Int) < (T.length:Int):=Oa
 have h8:=h.fresh Ol;have Z:=(h.alloc (bLM (dD T st.i))).drew;have xA:=((Px.refl O U Y V w).alloc (bLM (dD T st.i))).drew;have qA:(w.alloc (bLM (dD T st.i))).drew.1[w.1.size]?=some (Qf #[Qc (dD T st.i).d,Qc (dD T st.i).e,.string (dD T st.i).f,Qc (dD T st.i).a] 220):=Qk w _;have sA:(w.alloc (bLM (dD T st.i))).drew.1.size=w.1.size+1:=by simp[World.drew]
 clear h;go_enter func231,ntmps231
 go_upto_region 1 with fail
 go_region
 clear p0 p1 x0 x1 x2 x3;generalize (w.alloc (bLM (dD T st.i))).drew=W at*;have b2:=Z.boxed xA {d:=0,at_:=(dD T st.i).e} ⟨rfl,rfl,rfl,rfl,rfl,rfl,rfl,rfl⟩;have h2:=Z.alloc (bOG {d:=0,at_:=(dD T st.i).e});have y2:=xA.alloc (bOG {d:=0,at_:=(dD T st.i).e});have q2:(W.alloc (bOG {d:=0,at_:=(dD T st.i).e})).1[w.1.size]?=some (Qf #[Qc (dD T st.i).d,Qc (dD T st.i).e,.string (dD T st.i).f,Qc (dD T st.i).a] 220):=(On Oa).t qA;obtain⟨_,m1,_,_,_⟩:=dG qA;rw[sA]at b2;clear Z xA;go_upto_region 3 with fail
 clear m1 qA;generalize W.alloc (bOG {d:=0,at_:=(dD T st.i).e})=W2 at*;obtain⟨l0,l1,l2,l3,_⟩:=dG q2
 by_cases k1:(dD T st.i).d=1
 ·
   have u1:((dD T st.i).d==1)=true:=by simp[k1]
   have g9:(dD T st.i).d≠0:=Oa
   have HZ:Hid (bMF T E C B st=(if qat T (bKV T st) brT=true then bMT T E {d:=14,at_:=(dD T st.i).e,s:=(dD T st.i).f,c:=[(E (bKW T brT (bKV T st))).2]} (bL1 T bMX (bL0 T bOB (E (bKW T brT (bKV T st))).1))
    else bMT T E {d:=13,at_:=(dD T st.i).e,s:=(dD T st.i).f} (bL1 T bMX (bKV T st)))):=by
    unfold Hid bMF;dsimp only;rw[if_pos k1]
   clear k1;go_wp2_with fail
   refine(bMS h2).mono ?_;rintro e w3 ⟨rfl,h3,S⟩;unfold Tok.g;have b3:=b2.px (Px.I S (Y:=Y) (V:=V));have y3:=y2.t (Px.I S);have q3:=(S.block _ (Oo q2) Oa).t q2;have g8:=g6 g9 (Nat.le_of_lt h3.lt);clear l0 l1 l2 l3 b2 h2 y2 q2 S g6 hr;have M:=b3.d 13;have h4:=h3.U b3.o 0 (Qc 13);have y4:=y3.J b3.m 0 (Qc 13);have b5:=M.h (dD T st.i).f;have h5:=h4.U M.o 2 (.string (dD T st.i).f);have y5:=y4.J M.m 2 (.string (dD T st.i).f);obtain⟨⟨g0,g1,g2,_,_,_⟩,_,gf⟩:=b3.cells;obtain⟨⟨d0,d1,d2,_,_,_⟩,_,df⟩:=M.cells;obtain⟨l0,l1,l2,l3,_⟩:=dG q3;have g7:w.1.size≠w.1.size+1:=Oa
   obtain⟨r0,r1,r2,r3,_⟩:=dG ((Below.heap_setCell w3 ⟨w.1.size+1,0,none⟩ (Qc 13) w.1.size g7).t q3);have b9:=gf 0;have e6:=df 2;clear b3 h3 y3 M h4 y4 gf df;generalize bKV T st=s3 at*;go_wp2_with fail
   refine(bNE brT h5).mono ?_;rintro e w6 ⟨rfl,n6,rfl⟩;have b6:Bx H O U gw Y vI V w.1.size (w.1.size+1) {d:=13,at_:=(dD T st.i).e,s:=(dD T st.i).f} v0 (((w3.setCell ⟨w.1.size+1,0,none⟩ (Qc 13)).setCell ⟨w.1.size+1,2,none⟩ (.string (dD T st.i).f)).drewN n6):=b5.old (fun _ _=>rfl);have h6:=h5.drewN n6;have y6:=y5.drewN n6;clear l0 l1 l2 l3 r0 r1 r2 r3 g0 g1 g2 d0 d1 d2 b9 e6 b5 h5 y5 q3;generalize ((w3.setCell ⟨w.1.size+1,0,none⟩ (Qc 13)).setCell ⟨w.1.size+1,2,none⟩ (.string (dD T st.i).f)).drewN n6=W6 at*;cases hbr:qat T s3 brT
   ·
     have hz:Hid (bMF T E C B st=bMT T E {d:=13,at_:=(dD T st.i).e,s:=(dD T st.i).f} (bL1 T bMX s3)):=by rw[Hid,HZ.o,hbr];rfl
     clear HZ;go_wp2_with fail
     refine(bNY bMX h6).mono ?_;rintro e WT ⟨rfl,hT,e7⟩;obtain⟨v1,P⟩:∃ v1,Bx H O U gw Y vI V w.1.size (w.1.size+1) {d:=13,at_:=(dD T st.i).e,s:=(dD T st.i).f} (v1,.slice none 0 0,.slice none 0 0) WT:=⟨_,b6.px (Px.I e7 (Y:=Y) (V:=V))⟩;have yT:=y6.t (Px.I e7);have k5:=g8.gr (Gr.must T bMX s3) (Nat.le_of_lt hT.lt) Oa;have j7:({d:=13,at_:=(dD T st.i).e,s:=(dD T st.i).f}:NQ).g=[]/\({d:=13,at_:=(dD T st.i).e,s:=(dD T st.i).f}:NQ).e=[]:=⟨rfl,rfl⟩;have d7:({d:=13,at_:=(dD T st.i).e,s:=(dD T st.i).f}:NQ).c.length<=2:=Od
     clear b6 h6 y6 e7 g8;generalize bL1 T bMX s3=j at*;generalize ({d:=13,at_:=(dD T st.i).e,s:=(dD T st.i).f}:NQ)=g at*;obtain⟨ao,z,rfl,_⟩:=eQ P.n.k;go_wp2_with fail
     refine(HE.o _ _ _ _ c Oa hT (bNA T j) k5.room).mono ?_;rintro e f ⟨rfl,D,q,i,x8⟩;have b:=P.px x8;have k:=yT.t x8;have a3:=gE j;have j0:=k5.gr a3 (Nat.le_of_lt i.lt) Oa;have j6:Hid (bMF T E C B st=(bL2 {g with c:=g.c++[(E j).2]} (bL1 T bOA (E j).1),((E j).1.L.length:Int))):=hz;clear P hT yT k5 x8 hz a3;generalize (E j).2=y at*;generalize (E j).1=G at*;obtain⟨i0,j5,y0,j4,j3⟩:=info_parts info3;have m:=b.old (w':=f.alloc (Qf #[Qc y] 3)) (fun _ o=>On o);obtain⟨⟨_,_,_,_,_,r⟩,_,_⟩:=b.cells;have r:f.cell? ⟨w.1.size+1,5,none⟩=some (.slice ao g.c.length z):=r;obtain⟨⟨_,_,_,_,_,d5⟩,_,yf⟩:=m.cells;have f5:=yf 5;have d4:=i.T;have k7:=b.lt;have k0:=b.n.k;have A:some (w.1.size+1)≠(Value.slice ao g.c.length z).ownBlock:=fun e=>b.ne (.l e.symm) rfl;have k9:Hid (Bx H O U gw D vI q w.1.size (w.1.size+1) g (.slice ao g.c.length z,.slice none 0 0,.slice none 0 0) f/\PW H O U gw cw T G D vI q f/\Px O U Y D V q w f):=⟨b,i,k⟩;clear yf b i k m;go_upto_region 17 with(at_builtin;refine wpList_append_lies _ rfl _ _ 70 rfl H 3 i0 _ 1 8 underlying70 j5 y0 j4 j3 rfl Oa (.slice ao g.c.length z) g.c.length (bLU g.c) rfl (k0.alloc _) ⟨f.1.size,0,none⟩ 1 1 [Qc y] rfl rfl (World.news_of_block (cs:=#[Qc y]) (t:=3) (fr:=(0,0)) (Qk f _)) (by simp[Value.oneCell']) Oa (by unfold maxLen;omega) Oa (by simp;omega) (f.1.size+1) Od ?_;intro gg J w9 h1 n k8 k3;have q5:=(n.frozen_far ⟨w.1.size+1,5,none⟩ (by simp;omega) A).t f5;have q6:=(n.cell_far ⟨w.1.size+1,5,none⟩ (by simp;omega) A).t d5)
     obtain⟨b,i,k⟩:=k9.o;obtain⟨I,j2,a4⟩:=b.kid i k rfl j7 (x:=y) (w1:=f.alloc (Qf #[Qc y] 3)) ⟨rfl,rfl,rfl,Od⟩ (fun _ o=>On o) h1 n (k8.imp id (fun e=>by simpa using e));clear b i k k9 k0 h1 n k8 k3 q5 q6 r d5 f5 k7 A;go_wp2_with fail
     refine(bNY bOA j2).mono ?_;rintro e c5 ⟨rfl,F,R⟩;have p:=I.px (Px.I R (Y:=D) (V:=q));have L:=a4.t (Px.I R);have k6:(bL1 T bOA G).L.length<=200000:=by rw[bLX];unfold bLS at j0;omega
     obtain⟨⟨z0,z1,z2,z3,z4,z5⟩,⟨z6,z7,z8,z9,a7⟩,zf⟩:=p.cells;clear I j2 a4 R;go_wp2_with fail
     refine(bO2 p F L k6).mono ?_;rintro e b4 ⟨rfl,Z⟩;have HA:Hid _:=Z;clear Z p F L z0 z1 z2 z3 z4 z5 z6 z7 z8 z9 a7 zf;go_wp2;go_ret;rw[j6.o,bLX];exact⟨rfl,HA.o⟩
   ·
     have y0:Hid (bMF T E C B st=bMT T E {d:=14,at_:=(dD T st.i).e,s:=(dD T st.i).f,c:=[(E (bKW T brT s3)).2]} (bL1 T bMX (bL0 T bOB (E (bKW T brT s3)).1))):=by rw[Hid,HZ.o,hbr];rfl
     have b7:=b6.d 14;have h7:=h6.U b6.o 0 (Qc 14);have y7:=y6.J b6.m 0 (Qc 14);obtain⟨⟨g0,_⟩,_,gf⟩:=b6.cells;have b9:=gf 0;clear HZ gf b6 h6 y6;go_wp2_with fail
     refine(bPQ brT h7).mono ?_;rintro e f ⟨rfl,i,e8⟩;have b:=b7.px (Px.I e8 (Y:=Y) (V:=V));have k:=y7.t (Px.I e8);have j0:=g8.gr (Gr.opn T brT s3) (Nat.le_of_lt i.lt) Oa;clear b7 h7 y7 e8 g8 g0 b9;generalize bKW T brT s3=G at*;have a3:=gE G;go_wp2_with fail
     refine(HE.o _ _ _ _ c Oa i (bNA T G) j0.room).mono ?_;rintro e w9 ⟨rfl,a6,V9,h9,x9⟩;have m:=b.px x9;have y9:=k.t x9;have d9:=j0.gr a3 (Nat.le_of_lt h9.lt) Oa;clear b i k x9 j0 a3;generalize (E G).2=a5 at*;generalize (E G).1=s9 at*;obtain⟨i0,j5,j9,j4,j3⟩:=info_parts info3;have I:=m.old (w':=w9.alloc (Qf #[Qc a5] 3)) (fun _ o=>On o);obtain⟨⟨_,_,_,_,_,r⟩,_,_⟩:=m.cells;have r:w9.cell? ⟨w.1.size+1,5,none⟩=some (.slice none 0 0):=r;obtain⟨⟨_,_,_,_,_,d5⟩,_,yf⟩:=I.cells;have f5:=yf 5;have i2:=h9.T;have d6:=m.lt;have k0:=m.n.k;have A:some (w.1.size+1)≠v0.1.ownBlock:=by simp[v0,Value.ownBlock]
     have k9:Hid (Bx H O U gw a6 vI V9 w.1.size (w.1.size+1) {d:=14,at_:=(dD T st.i).e,s:=(dD T st.i).f} v0 w9/\PW H O U gw cw T s9 a6 vI V9 w9/\Px O U Y a6 V V9 w w9):=⟨m,h9,y9⟩;clear yf m h9 y9 I;go_upto_region 13 with(at_builtin;refine wpList_append_lies _ rfl _ _ 70 rfl H 3 i0 _ 1 8 underlying70 j5 j9 j4 j3 rfl Oa (.slice none 0 0) 0 [] rfl (k0.alloc _) ⟨w9.1.size,0,none⟩ 1 1 [Qc a5] rfl rfl (World.news_of_block (cs:=#[Qc a5]) (t:=3) (fr:=(0,0)) (Qk w9 _)) (by simp[Value.oneCell']) Oa (by unfold maxLen;omega) Oa (by simp;omega) (w9.1.size+1) Od ?_;intro gx a8 b1 j1 n k8 k3;have q5:=(n.frozen_far ⟨w.1.size+1,5,none⟩ (by simp;omega) A).t f5;have q6:=(n.cell_far ⟨w.1.size+1,5,none⟩ (by simp;omega) A).t d5)
     obtain⟨m,h9,y9⟩:=k9.o;obtain⟨p,F,L⟩:=m.kid h9 y9 rfl ⟨rfl,rfl⟩ (x:=a5) (w1:=w9.alloc (Qf #[Qc a5] 3)) ⟨rfl,rfl,rfl,Od⟩ (fun _ o=>On o) j1 n (k8.imp id (fun e=>by simpa using e));have p:Bx H O U gw a6 vI V9 w.1.size (w.1.size+1) {d:=14,at_:=(dD T st.i).e,s:=(dD T st.i).f,c:=[a5]} (Qe gx 1 a8,.slice none 0 0,.slice none 0 0) (b1.setCell ⟨w.1.size+1,5,none⟩ (Qe gx 1 a8)):=p;have F:PW H O U gw cw T s9 a6 vI V9 (b1.setCell ⟨w.1.size+1,5,none⟩ (Qe gx 1 a8)):=F;have L:Px O U Y a6 V V9 w (b1.setCell ⟨w.1.size+1,5,none⟩ (Qe gx 1 a8)):=L;clear m h9 y9 k9 k0 j1 n k8 k3 q5 q6 r d5 f5 d6 A j5 j9 j4 j3;generalize b1.setCell ⟨w.1.size+1,5,none⟩ (Qe gx 1 a8)=f6 at*;go_wp2_with fail
     refine(bPP bOB F).mono ?_;rintro e b4 ⟨rfl,d8,b8⟩;have Q:=p.px (Px.I b8 (Y:=a6) (V:=V9));have c8:=L.t (Px.I b8);have g5:=d9.gr (Gr.H T bOB s9) (Nat.le_of_lt d8.lt) Oa;clear p F L b8 d9;generalize bL0 T bOB s9=c7 at*;go_wp2_with fail
     refine(bNY bMX d8).mono ?_;rintro e WT ⟨rfl,hT,e7⟩;obtain⟨v1,P⟩:∃ v1,Bx H O U gw a6 vI V9 w.1.size (w.1.size+1) {d:=14,at_:=(dD T st.i).e,s:=(dD T st.i).f,c:=[a5]} (v1,.slice none 0 0,.slice none 0 0) WT:=⟨_,Q.px (Px.I e7 (Y:=a6) (V:=V9))⟩;have yT:=c8.t (Px.I e7);have k5:=g5.gr (Gr.must T bMX c7) (Nat.le_of_lt hT.lt) Oa;have j7:({d:=14,at_:=(dD T st.i).e,s:=(dD T st.i).f,c:=[a5]}:NQ).g=[]/\({d:=14,at_:=(dD T st.i).e,s:=(dD T st.i).f,c:=[a5]}:NQ).e=[]:=⟨rfl,rfl⟩;have d7:({d:=14,at_:=(dD T st.i).e,s:=(dD T st.i).f,c:=[a5]}:NQ).c.length<=2:=Od
     have hz:=y0;clear Q d8 c8 e7 g5 y0;generalize bL1 T bMX c7=j at*;generalize ({d:=14,at_:=(dD T st.i).e,s:=(dD T st.i).f,c:=[a5]}:NQ)=g at*;obtain⟨ao,z,rfl,_⟩:=eQ P.n.k;go_wp2_with fail
     refine(HE.o _ _ _ _ c Oa hT (bNA T j) k5.room).mono ?_;rintro e f ⟨rfl,D,q,i,x8⟩;have b:=P.px x8;have k:=yT.t x8;have a3:=gE j;have j0:=k5.gr a3 (Nat.le_of_lt i.lt) Oa;have j6:Hid (bMF T E C B st=(bL2 {g with c:=g.c++[(E j).2]} (bL1 T bOA (E j).1),((E j).1.L.length:Int))):=hz;clear P hT yT k5 x8 hz a3;generalize (E j).2=y at*;generalize (E j).1=G at*;obtain⟨i0,j5,y0,j4,j3⟩:=info_parts info3;have m:=b.old (w':=f.alloc (Qf #[Qc y] 3)) (fun _ o=>On o);obtain⟨⟨_,_,_,_,_,r⟩,_,_⟩:=b.cells;have r:f.cell? ⟨w.1.size+1,5,none⟩=some (.slice ao g.c.length z):=r;obtain⟨⟨_,_,_,_,_,d5⟩,_,yf⟩:=m.cells;have f5:=yf 5;have d4:=i.T;have k7:=b.lt;have k0:=b.n.k;have A:some (w.1.size+1)≠(Value.slice ao g.c.length z).ownBlock:=fun e=>b.ne (.l e.symm) rfl;have k9:Hid (Bx H O U gw D vI q w.1.size (w.1.size+1) g (.slice ao g.c.length z,.slice none 0 0,.slice none 0 0) f/\PW H O U gw cw T G D vI q f/\Px O U Y D V q w f):=⟨b,i,k⟩;clear yf b i k m;go_upto_region 17 with(at_builtin;refine wpList_append_lies _ rfl _ _ 70 rfl H 3 i0 _ 1 8 underlying70 j5 y0 j4 j3 rfl Oa (.slice ao g.c.length z) g.c.length (bLU g.c) rfl (k0.alloc _) ⟨f.1.size,0,none⟩ 1 1 [Qc y] rfl rfl (World.news_of_block (cs:=#[Qc y]) (t:=3) (fr:=(0,0)) (Qk f _)) (by simp[Value.oneCell']) Oa (by unfold maxLen;omega) Oa (by simp;omega) (f.1.size+1) Od ?_;intro gg J w9 h1 n k8 k3;have q5:=(n.frozen_far ⟨w.1.size+1,5,none⟩ (by simp;omega) A).t f5;have q6:=(n.cell_far ⟨w.1.size+1,5,none⟩ (by simp;omega) A).t d5)
     obtain⟨b,i,k⟩:=k9.o;obtain⟨I,j2,a4⟩:=b.kid i k rfl j7 (x:=y) (w1:=f.alloc (Qf #[Qc y] 3)) ⟨rfl,rfl,rfl,Od⟩ (fun _ o=>On o) h1 n (k8.imp id (fun e=>by simpa using e));clear b i k k9 k0 h1 n k8 k3 q5 q6 r d5 f5 k7 A;go_wp2_with fail
     refine(bNY bOA j2).mono ?_;rintro e c5 ⟨rfl,F,R⟩;have p:=I.px (Px.I R (Y:=D) (V:=q));have L:=a4.t (Px.I R);have k6:(bL1 T bOA G).L.length<=200000:=by rw[bLX];unfold bLS at j0;omega
     obtain⟨⟨z0,z1,z2,z3,z4,z5⟩,⟨z6,z7,z8,z9,a7⟩,zf⟩:=p.cells;clear I j2 a4 R;go_wp2_with fail
     refine(bO2 p F L k6).mono ?_;rintro e b4 ⟨rfl,Z⟩;have HA:Hid _:=Z;clear Z p F L z0 z1 z2 z3 z4 z5 z6 z7 z8 z9 a7 zf;go_wp2;go_ret;rw[j6.o,bLX];exact⟨rfl,HA.o⟩
 ·
   have u1:((dD T st.i).d==1)=false:=by simp[k1]
   have HZ:Hid (bMF T E C B st=(if bNR T st stT=true then
    if(dD T st.i).f=bRG then bMT T E {d:=12,at_:=(bL9 T 1 (bKV T st)).e,s:=(bL9 T 1 (bKV T st)).f} (bL1 T bMX (bL6 T 1 (bKV T st)))
    else if(dD T st.i).f=ifT then bLO T C B {d:=0,at_:=(dD T st.i).e} true (bKV T st)
    else if(dD T st.i).f=bO9 then bLO T C B {d:=0,at_:=(dD T st.i).e} false (bKV T st)
    else if(dD T st.i).f=bNQ then bMT T E {d:=17,at_:=(dD T st.i).e} (bKV T st)
    else bMT T E {d:=18,at_:=(dD T st.i).e} (bKV T st)
   else(bLH T st,0))):=by
    unfold Hid bMF;dsimp only;rw[if_neg k1]
   clear k1;go_wp2_with fail
   refine(bU4 stT Ob h2).mono ?_;rintro e w3 ⟨rfl,n3,rfl⟩;have h3:=h2.drewN n3;have y3:=y2.drewN n3;have q3:(W2.drewN n3).1[w.1.size]?=some (Qf #[Qc (dD T st.i).d,Qc (dD T st.i).e,.string (dD T st.i).f,Qc (dD T st.i).a] 220):=q2;have b3:Bx H O U gw Y vI V w.1.size (w.1.size+1) {d:=0,at_:=(dD T st.i).e} v0 (W2.drewN n3):=b2.old (fun _ _=>rfl);clear l0 l1 l2 l3 b2 h2 y2 q2;generalize W2.drewN n3=W3 at*;cases hany:bNR T st stT
   ·
     have hz:Hid (bMF T E C B st=(bLH T st,0)):=by rw[Hid,HZ.o,hany];rfl
     clear HZ g6 hr b3 q3;go_wp2_with fail
     refine(bPA h3).mono ?_;rintro e w4 ⟨rfl,h4,e4⟩;have y4:=y3.t (Px.I e4);clear h3 y3 e4;go_wp2;go_ret;rw[hz.o];exact⟨rfl,Y,V,h4,y4⟩
   ·have g9:=bQ6 hany
    have d3:Hid (bMF T E C B st=(if(dD T st.i).f=bRG then bMT T E {d:=12,at_:=(bL9 T 1 (bKV T st)).e,s:=(bL9 T 1 (bKV T st)).f} (bL1 T bMX (bL6 T 1 (bKV T st)))
     else if(dD T st.i).f=ifT then bLO T C B {d:=0,at_:=(dD T st.i).e} true (bKV T st)
     else if(dD T st.i).f=bO9 then bLO T C B {d:=0,at_:=(dD T st.i).e} false (bKV T st)
     else if(dD T st.i).f=bNQ then bMT T E {d:=17,at_:=(dD T st.i).e} (bKV T st)
     else bMT T E {d:=18,at_:=(dD T st.i).e} (bKV T st))):=by rw[Hid,HZ.o,hany];rfl
    clear HZ hany;go_wp2_with fail
    refine(bMS h3).mono ?_;rintro e w4 ⟨rfl,h4,e4⟩;have M:=b3.px (Px.I e4 (Y:=Y) (V:=V));have y4:=y3.t (Px.I e4);have q4:=(e4.block _ (Oo q3) Oa).t q3;have g4:=g6 g9 (Nat.le_of_lt h4.lt);clear b3 h3 y3 q3 e4 g6 hr g9;obtain⟨l0,l1,l2,l3,_⟩:=dG q4;generalize bKV T st=s4 at*;generalize dD T st.i=t at*;unfold Tok.g
    have y1:∀ (y:ByteArray) (l:List UInt8),y.data.toList=l->(t.f.toList==l)=decide (t.f=y):=fun y l hl=>by
     rw[<-hl,<-Lib.toList_data,bOK]
    by_cases e1:t.f=bRG
    ·
      have f1:(t.f.toList==[108,101,116])=true:=(y1 bRG [108,101,116] rfl).t (decide_eq_true e1);have y0:Hid (bMF T E C B st=bMT T E {d:=12,at_:=(bL9 T 1 s4).e,s:=(bL9 T 1 s4).f} (bL1 T bMX (bL6 T 1 s4))):=by rw[Hid,d3.o,if_pos e1]
      clear d3 y1 e1;go_wp2_with fail
      refine(bPT 1 h4).mono ?_;rintro e w5 ⟨rfl,h5,e5⟩;have b5:=M.px (Px.I e5 (Y:=Y) (V:=V));have y5:=y4.t (Px.I e5);have m0:=g4.gr (Gr.knd T 1 s4) (Nat.le_of_lt h5.lt) Oa;clear M h4 y4 q4 e5 l0 l1 l2 l3 g4;generalize bL6 T 1 s4=s5 at*;generalize bL9 T 1 s4=u at*;unfold Tok.g;have b6:=b5.old (w':=w5.alloc (bLM u)) (fun _ o=>On o);have h6:=h5.alloc (bLM u);have y6:=y5.alloc (bLM u);have q6:(w5.alloc (bLM u)).1[w5.1.size]?=some (Qf #[Qc u.d,Qc u.e,.string u.f,Qc u.a] 220):=Qk w5 _;have g7:w5.1.size≠w.1.size+1:=by have:=b5.lt;omega
      clear b5 h5 y5;have b7:=b6.d 12;have h7:=h6.U b6.o 0 (Qc 12);have y7:=y6.J b6.m 0 (Qc 12);have q7:=(Below.heap_setCell (w5.alloc (bLM u)) ⟨w.1.size+1,0,none⟩ (Qc 12) w5.1.size g7).t q6;have b:=b7.e u.e;have i:=h7.U b7.o 1 (Qc u.e);have k:=y7.J b7.m 1 (Qc u.e);have q8:=(Below.heap_setCell _ ⟨w.1.size+1,1,none⟩ (Qc u.e) w5.1.size g7).t q7;have m:=b.h u.f;have h9:=i.U b.o 2 (.string u.f);have y9:=k.J b.m 2 (.string u.f);obtain⟨⟨a0,_⟩,_,af⟩:=b6.cells;obtain⟨⟨_,a1,_⟩,_,ag⟩:=b7.cells;obtain⟨⟨_,_,a2,_⟩,_,ah⟩:=b.cells;obtain⟨_,m1,_,_⟩:=dG q7;obtain⟨_,_,m2,_⟩:=dG q8;have c6:=af 0;have c9:=ag 1;have e3:=ah 2;clear af ag ah b6 h6 y6 b7 h7 y7 b i k q6 q7 q8;go_wp2_with fail
      refine(bNY bMX h9).mono ?_;rintro e WT ⟨rfl,hT,e7⟩;obtain⟨v1,P⟩:∃ v1,Bx H O U gw Y vI V w.1.size (w.1.size+1) {d:=12,at_:=u.e,s:=u.f} (v1,.slice none 0 0,.slice none 0 0) WT:=⟨_,m.px (Px.I e7 (Y:=Y) (V:=V))⟩;have yT:=y9.t (Px.I e7);have k5:=m0.gr (Gr.must T bMX s5) (Nat.le_of_lt hT.lt) Oa;have j7:({d:=12,at_:=u.e,s:=u.f}:NQ).g=[]/\({d:=12,at_:=u.e,s:=u.f}:NQ).e=[]:=⟨rfl,rfl⟩;have d7:({d:=12,at_:=u.e,s:=u.f}:NQ).c.length<=2:=Od
      have hz:=y0;clear m h9 y9 e7 m0 y0 a0 a1 a2 m1 m2 c6 c9 e3 f1 g7;generalize bL1 T bMX s5=j at*;generalize ({d:=12,at_:=u.e,s:=u.f}:NQ)=g at*;obtain⟨ao,z,rfl,_⟩:=eQ P.n.k;go_wp2_with fail
      refine(HE.o _ _ _ _ c Oa hT (bNA T j) k5.room).mono ?_;rintro e f ⟨rfl,D,q,i,x8⟩;have b:=P.px x8;have k:=yT.t x8;have a3:=gE j;have j0:=k5.gr a3 (Nat.le_of_lt i.lt) Oa;have j6:Hid (bMF T E C B st=(bL2 {g with c:=g.c++[(E j).2]} (bL1 T bOA (E j).1),((E j).1.L.length:Int))):=hz;clear P hT yT k5 x8 hz a3;generalize (E j).2=y at*;generalize (E j).1=G at*;obtain⟨i0,j5,y0,j4,j3⟩:=info_parts info3;have m:=b.old (w':=f.alloc (Qf #[Qc y] 3)) (fun _ o=>On o);obtain⟨⟨_,_,_,_,_,r⟩,_,_⟩:=b.cells;have r:f.cell? ⟨w.1.size+1,5,none⟩=some (.slice ao g.c.length z):=r;obtain⟨⟨_,_,_,_,_,d5⟩,_,yf⟩:=m.cells;have f5:=yf 5;have d4:=i.T;have k7:=b.lt;have k0:=b.n.k;have A:some (w.1.size+1)≠(Value.slice ao g.c.length z).ownBlock:=fun e=>b.ne (.l e.symm) rfl;have k9:Hid (Bx H O U gw D vI q w.1.size (w.1.size+1) g (.slice ao g.c.length z,.slice none 0 0,.slice none 0 0) f/\PW H O U gw cw T G D vI q f/\Px O U Y D V q w f):=⟨b,i,k⟩;clear yf b i k m;go_upto_region 39 with(at_builtin;refine wpList_append_lies _ rfl _ _ 70 rfl H 3 i0 _ 1 8 underlying70 j5 y0 j4 j3 rfl Oa (.slice ao g.c.length z) g.c.length (bLU g.c) rfl (k0.alloc _) ⟨f.1.size,0,none⟩ 1 1 [Qc y] rfl rfl (World.news_of_block (cs:=#[Qc y]) (t:=3) (fr:=(0,0)) (Qk f _)) (by simp[Value.oneCell']) Oa (by unfold maxLen;omega) Oa (by simp;omega) (f.1.size+1) Od ?_;intro gg J w9 h1 n k8 k3;have q5:=(n.frozen_far ⟨w.1.size+1,5,none⟩ (by simp;omega) A).t f5;have q6:=(n.cell_far ⟨w.1.size+1,5,none⟩ (by simp;omega) A).t d5)
      obtain⟨b,i,k⟩:=k9.o;obtain⟨I,j2,a4⟩:=b.kid i k rfl j7 (x:=y) (w1:=f.alloc (Qf #[Qc y] 3)) ⟨rfl,rfl,rfl,Od⟩ (fun _ o=>On o) h1 n (k8.imp id (fun e=>by simpa using e));clear b i k k9 k0 h1 n k8 k3 q5 q6 r d5 f5 k7 A;go_wp2_with fail
      refine(bNY bOA j2).mono ?_;rintro e c5 ⟨rfl,F,R⟩;have p:=I.px (Px.I R (Y:=D) (V:=q));have L:=a4.t (Px.I R);have k6:(bL1 T bOA G).L.length<=200000:=by rw[bLX];unfold bLS at j0;omega
      obtain⟨⟨z0,z1,z2,z3,z4,z5⟩,⟨z6,z7,z8,z9,a7⟩,zf⟩:=p.cells;clear I j2 a4 R;go_wp2_with fail
      refine(bO2 p F L k6).mono ?_;rintro e b4 ⟨rfl,Z⟩;have HA:Hid _:=Z;clear Z p F L z0 z1 z2 z3 z4 z5 z6 z7 z8 z9 a7 zf;go_wp2;go_ret;rw[j6.o,bLX];exact⟨rfl,HA.o⟩
    have f1:(t.f.toList==[108,101,116])=false:=(y1 bRG [108,101,116] rfl).t (decide_eq_false e1)
    have j8:Hid (bMF T E C B st=(if t.f=ifT then bLO T C B {d:=0,at_:=t.e} true s4
     else if t.f=bO9 then bLO T C B {d:=0,at_:=t.e} false s4
     else if t.f=bNQ then bMT T E {d:=17,at_:=t.e} s4
     else bMT T E {d:=18,at_:=t.e} s4)):=by rw[Hid,d3.o,if_neg e1]
    clear d3 e1
    by_cases e2:t.f=ifT\/t.f=bO9
    ·
      obtain⟨⟨z0,z1,z2,z3,z4,z5⟩,⟨z6,z7,z8,z9,a7⟩,zf⟩:=M.cells
      obtain⟨a9,f2,f3,hz⟩:∃ a9,(t.f.toList==[105,102])=a9/\(a9=false->(t.f.toList==[119,104,105,108,101])=true)/\Hid (bMF T E C B st=bLO T C B {d:=0,at_:=t.e} a9 s4):=by
       by_cases S:t.f=ifT
       ·exact⟨true,(y1 ifT [105,102] rfl).t (decide_eq_true S),(fun h=>by cases h),by rw[Hid,j8.o,if_pos S]⟩
       ·have e4:=e2.resolve_left S;exact⟨false,(y1 ifT [105,102] rfl).t (decide_eq_false S),fun _=>(y1 bO9 [119,104,105,108,101] rfl).t (decide_eq_true e4),by rw[Hid,j8.o,if_neg S,if_pos e4]⟩
      clear j8 y1 e2;cases a9
      all_goals
       first|(have f3:=f3 rfl)|skip
       go_wp2_with fail
       refine(bYG K hK C B gC gB N HC.o HB.o t.e t.f _ f2 c m3 h4 m4 g4).mono ?_;rintro e w5 ⟨rfl,e9,V5,h5,x5⟩;have y5:=y4.t x5;clear z0 z1 z2 z3 z4 z5 z6 z7 z8 z9 a7 zf M q4 l0 l1 l2 l3 h4 x5;go_wp2;go_ret;rw[hz.o];exact⟨rfl,e9,V5,h5,y5⟩
    have g2:(t.f.toList==[105,102])=false:=(y1 ifT [105,102] rfl).t (decide_eq_false (fun h=>e2 (.l h)));have g3:(t.f.toList==[119,104,105,108,101])=false:=(y1 bO9 [119,104,105,108,101] rfl).t (decide_eq_false (fun h=>e2 (.r h)))
    obtain⟨kT,f4,hz⟩:∃ kT:Int,((t.f.toList==[114,101,116,117,114,110])=true/\kT=17\/(t.f.toList==[114,101,116,117,114,110])=false/\kT=18)/\Hid (bMF T E C B st=bMT T E {d:=kT,at_:=t.e} s4):=by
     by_cases S:t.f=bNQ
     ·exact⟨17,.l ⟨(y1 bNQ [114,101,116,117,114,110] rfl).t (decide_eq_true S),rfl⟩,by rw[Hid,j8.o,if_neg (fun h=>e2 (.l h)),if_neg (fun h=>e2 (.r h)),if_pos S]⟩
     ·exact⟨18,.r ⟨(y1 bNQ [114,101,116,117,114,110] rfl).t (decide_eq_false S),rfl⟩,by rw[Hid,j8.o,if_neg (fun h=>e2 (.l h)),if_neg (fun h=>e2 (.r h)),if_neg S]⟩
    obtain⟨v1,P⟩:∃ v1,Bx H O U gw Y vI V w.1.size (w.1.size+1) {d:=kT,at_:=t.e} (v1,.slice none 0 0,.slice none 0 0) (w4.setCell ⟨w.1.size+1,0,none⟩ (Qc kT)):=⟨_,M.d kT⟩;have hT:=h4.U M.o 0 (Qc kT);have yT:=y4.J M.m 0 (Qc kT);have k5:=g4;have j7:({d:=kT,at_:=t.e}:NQ).g=[]/\({d:=kT,at_:=t.e}:NQ).e=[]:=⟨rfl,rfl⟩;have d7:({d:=kT,at_:=t.e}:NQ).c.length<=2:=Od
    obtain⟨⟨a0,_⟩,_,af⟩:=M.cells;have c6:=af 0;clear j8 y1 e2 M h4 y4 q4 af g4;generalize s4=j at*;generalize ({d:=kT,at_:=t.e}:NQ)=g at*;rcases f4 with⟨f4,rfl⟩|⟨f4,rfl⟩
    all_goals
     obtain⟨ao,z,rfl,_⟩:=eQ P.n.k;go_wp2_with fail
     refine(HE.o _ _ _ _ c Oa hT (bNA T j) k5.room).mono ?_;rintro e f ⟨rfl,D,q,i,x8⟩;have b:=P.px x8;have k:=yT.t x8;have a3:=gE j;have j0:=k5.gr a3 (Nat.le_of_lt i.lt) Oa;have j6:Hid (bMF T E C B st=(bL2 {g with c:=g.c++[(E j).2]} (bL1 T bOA (E j).1),((E j).1.L.length:Int))):=hz;clear P hT yT k5 x8 hz a3;generalize (E j).2=y at*;generalize (E j).1=G at*;obtain⟨i0,j5,y0,j4,j3⟩:=info_parts info3;have m:=b.old (w':=f.alloc (Qf #[Qc y] 3)) (fun _ o=>On o);obtain⟨⟨_,_,_,_,_,r⟩,_,_⟩:=b.cells;have r:f.cell? ⟨w.1.size+1,5,none⟩=some (.slice ao g.c.length z):=r;obtain⟨⟨_,_,_,_,_,d5⟩,_,yf⟩:=m.cells;have f5:=yf 5;have d4:=i.T;have k7:=b.lt;have k0:=b.n.k;have A:some (w.1.size+1)≠(Value.slice ao g.c.length z).ownBlock:=fun e=>b.ne (.l e.symm) rfl;have k9:Hid (Bx H O U gw D vI q w.1.size (w.1.size+1) g (.slice ao g.c.length z,.slice none 0 0,.slice none 0 0) f/\PW H O U gw cw T G D vI q f/\Px O U Y D V q w f):=⟨b,i,k⟩;clear yf b i k m;go_upto_region 39 with(at_builtin;refine wpList_append_lies _ rfl _ _ 70 rfl H 3 i0 _ 1 8 underlying70 j5 y0 j4 j3 rfl Oa (.slice ao g.c.length z) g.c.length (bLU g.c) rfl (k0.alloc _) ⟨f.1.size,0,none⟩ 1 1 [Qc y] rfl rfl (World.news_of_block (cs:=#[Qc y]) (t:=3) (fr:=(0,0)) (Qk f _)) (by simp[Value.oneCell']) Oa (by unfold maxLen;omega) Oa (by simp;omega) (f.1.size+1) Od ?_;intro gg J w9 h1 n k8 k3;have q5:=(n.frozen_far ⟨w.1.size+1,5,none⟩ (by simp;omega) A).t f5;have q6:=(n.cell_far ⟨w.1.size+1,5,none⟩ (by simp;omega) A).t d5)
     obtain⟨b,i,k⟩:=k9.o;obtain⟨I,j2,a4⟩:=b.kid i k rfl j7 (x:=y) (w1:=f.alloc (Qf #[Qc y] 3)) ⟨rfl,rfl,rfl,Od⟩ (fun _ o=>On o) h1 n (k8.imp id (fun e=>by simpa using e));clear b i k k9 k0 h1 n k8 k3 q5 q6 r d5 f5 k7 A;go_wp2_with fail
     refine(bNY bOA j2).mono ?_;rintro e c5 ⟨rfl,F,R⟩;have p:=I.px (Px.I R (Y:=D) (V:=q));have L:=a4.t (Px.I R);have k6:(bL1 T bOA G).L.length<=200000:=by rw[bLX];unfold bLS at j0;omega
     obtain⟨⟨z0,z1,z2,z3,z4,z5⟩,⟨z6,z7,z8,z9,a7⟩,zf⟩:=p.cells;clear I j2 a4 R;go_wp2_with fail
     refine(bO2 p F L k6).mono ?_;rintro e b4 ⟨rfl,Z⟩;have HA:Hid _:=Z;clear Z p F L z0 z1 z2 z3 z4 z5 z6 z7 z8 z9 a7 zf;go_wp2;go_ret;rw[j6.o,bLX];exact⟨rfl,HA.o⟩
end
section
variable {H O U gw cw X:Nat} {T:List Tok} {st:QS} {Y vI:Value} {V:List V3} {w:World} {a:NQ} {v:V3}
theorem bV4:∀ N,bMW 40000 H O U gw cw T vI 171 #[Qd O] (qBl T (qE T) (qC T) (N+1)) N:=by
 intro N
 induction N with
 |zero=>exact bW0 40000 _ (bOL (bRJ T) (bUW T) (bPV (bRJ T) (bUW T) 0)) 0 (fun st Y V w c _ _ _ b=>Oa) Ol
 |succ N ih=>exact bW0 40000 _ (bOL (bRJ T) (bUW T) (bPV (bRJ T) (bUW T) (N+1))) (N+1) (cA4 40000 Ol (qE T) (qC T) _ (bRJ T) (bUW T) (bPV (bRJ T) (bUW T) (N+1)) N bSL bWS ih) Ol
theorem bWU:bMW 40000 H O U gw cw T vI 171 #[Qd O] (qB T) T.length:=bV4 T.length
theorem Bx.par{c:World}(h:Bx H O U gw Y vI V c.1.size X a v w)(q:PW H O U gw cw T st Y vI V w){j:Value}{d:List V3}(r:Px O U j Y d V c w)(e:v.1= .slice none 0 0)(f:v.2.2= .slice none 0 0)(i:a.c=[]/\a.e=[]){t:Tok}{w1 w2:World}{g J:Nat}(o:w1.os=w.os/\w1.tape=w.tape/\w1.output=w.output/\w.1.size<=w1.1.size)(n:∀ k,k < w.1.size->w1.1[k]?=w.1[k]?)(l:w2.ownsRow H 220 4 (Qe g (a.g.length+1) J) (a.g.length+1) (fJ a.g++t.cells))(p:w1.grownBy w2 v.2.1.ownBlock)(m:v.2.1.ownBlock=some g\/g=w1.1.size):
 Bx H O U gw Y vI V c.1.size X {a with g:=a.g++[t]} (.slice none 0 0,Qe g (a.g.length+1) J,.slice none 0 0) (w2.setCell ⟨X,6,none⟩ (Qe g (a.g.length+1) J))/\PW H O U gw cw T st Y vI V (w2.setCell ⟨X,6,none⟩ (Qe g (a.g.length+1) J))/\Px O U j Y d V c (w2.setCell ⟨X,6,none⟩ (Qe g (a.g.length+1) J)):=by
 obtain⟨s,u,x⟩:=v;dsimp only at e f;subst e f;refine h.grow q r (fun k b=> .r (.l b)) rfl (fun k b=>?_) o n p m ⟨?_,?_,?_⟩
 ·rcases b with b|b|b
  ·cases b
  ·exact .r (by simpa[Value.ownBlock]using b.symm)
  ·cases b
 ·rw[i.1];exact⟨rfl,.l ⟨rfl,rfl⟩⟩
 ·show w2.ownsRow H 220 4 _ (a.g++[t]).length (fJ (a.g++[t]));rw[List.length_append,bD2];exact l
 ·rw[i.2];exact⟨rfl,.l ⟨rfl,rfl⟩⟩
theorem Bx.whe{c:World}(h:Bx H O U gw Y vI V c.1.size X a v w)(s:PW H O U gw cw T st Y vI V w){m:Value}{f:List V3}(t:Px O U m Y f V c w)(i:v.1= .slice none 0 0)(q:a.c=[]){x:Int}{w1 w2:World}{g J:Nat}(r:w1.os=w.os/\w1.tape=w.tape/\w1.output=w.output/\w.1.size<=w1.1.size)(l:∀ k,k < w.1.size->w1.1[k]?=w.1[k]?)(n:w2.ownsRow H 3 1 (Qe g (a.e.length+1) J) (a.e.length+1) (bLU a.e++[Qc x]))(d:w1.grownBy w2 v.2.2.ownBlock)(j:v.2.2.ownBlock=some g\/g=w1.1.size):
 Bx H O U gw Y vI V c.1.size X {a with e:=a.e++[x]} (.slice none 0 0,v.2.1,Qe g (a.e.length+1) J) (w2.setCell ⟨X,7,none⟩ (Qe g (a.e.length+1) J))/\PW H O U gw cw T st Y vI V (w2.setCell ⟨X,7,none⟩ (Qe g (a.e.length+1) J))/\Px O U m Y f V c (w2.setCell ⟨X,7,none⟩ (Qe g (a.e.length+1) J)):=by
 obtain⟨u,y,z⟩:=v;dsimp only at i d j;subst i;refine h.grow s t (fun k b=> .r (.r b)) rfl (fun k b=>?_) r l d j ⟨?_,?_,?_⟩
 ·rcases b with b|b|b
  ·cases b
  ·exact .l (.r (.l b))
  ·exact .r (by simpa[Value.ownBlock]using b.symm)
 ·rw[q];exact⟨rfl,.l ⟨rfl,rfl⟩⟩
 ·exact cD h.n.p (fun k b=>by
   have o:=bLP h.n.p b;refine(d.block k Oa (fun e=>?_)).t (l k o);obtain⟨⟨c1,p⟩,_⟩:=bEH h.n.p b;exact bL5 h.n.h p Ob e.symm)
 ·show w2.ownsRow H 3 1 _ (a.e++[x]).length (bLU (a.e++[x]));simpa[bLU]using n
theorem Bx.body{f:World}(h:Bx H O U gw Y vI V f.1.size X a v w)(g:PW H O U gw cw T st Y vI V w){m:Value}{i:List V3}(l:Px O U m Y i V f w)(x:Int):
 Bx H O U gw Y vI V f.1.size X {a with c:=[x]} (Qe w.1.size 1 1,v.2) ((w.alloc (Qf #[Qc x] 3)).setCell ⟨X,5,none⟩ (Qe w.1.size 1 1)):=by
 have n:=h.lt;have hsz:=l.size;have d:=h.old (w':=w.alloc (Qf #[Qc x] 3)) (fun _ b=>On b);have j:w.1.size≠X:=Oa
 refine⟨aM _ d.c,h.o,h.m,⟨?_,?_,?_⟩,fun k b=>?_⟩
 ·exact⟨rfl,.r ⟨w.1.size,1,#[Qc x],rfl,g.T,(Om j).t (Qk w _),Ql _,Ob,rfl,rfl⟩⟩
 ·exact cD d.n.p (fun k b=>Om (d.ne (.r (.l b))))
 ·exact cD d.n.h (fun k b=>Om (d.ne (.r (.r b))))
 ·rcases b with b|b|b
  ·have e:w.1.size=k:=by simpa[Value.ownBlock]using b
   exact⟨g.fresh Oa,Oa⟩
  ·exact h.u k (.r (.l b))
  ·exact h.u k (.r (.r b))
theorem bQ7:∀ (L:List NQ) (V:List V3) (i:Nat) (a:NQ) (v:V3),L[i]?=some a->V[i]?=some v->∀ j,j < 11->(bMY L V)[i*11+j]?=(NdV a v)[j]?
 |b::L,u::V,0,a,v,h1,h2,j,hj=>by
  simp only[List.getElem?_cons_zero,Option.some.injEq]at h1 h2;subst h1 h2;show(NdV b u++bMY L V)[0*11+j]?=_;rw[Nat.zero_mul,Nat.zero_add,List.getElem?_append_left (by simp only[NdV,List.length_cons,List.length_nil];omega)]
 |b::L,u::V,i+1,a,v,h1,h2,j,hj=>by
  show(NdV b u++bMY L V)[(i+1)*11+j]?=_;have e:(NdV b u).length=11:=rfl;rw[List.getElem?_append_right (by rw[e];omega),e,show(i+1)*11+j - 11=i*11+j by omega];exact bQ7 L V i a v (by simpa using h1) (by simpa using h2) j hj
theorem bMQ.get{H:Nat}{w:World}:∀ {L:List NQ} {V:List V3} {i:Nat} {a:NQ},bMQ H w L V->L[i]?=some a->∃ v,V[i]?=some v/\NdW H w a v
 |b::L,u::V,0,a,h,h1=>by
  simp only[List.getElem?_cons_zero,Option.some.injEq]at h1;subst h1;exact⟨u,rfl,h.1⟩
 |b::L,u::V,i+1,a,h,h1=>by
  obtain⟨v,c,d⟩:=bMQ.get (i:=i) h.2 (by simpa using h1);exact⟨v,by simpa using c,d⟩
theorem PW.node(h:PW H O U gw cw T st Y vI V w){i:Nat}{a:NQ}(hi:st.L[i]?=some a):∃ g J v,Y= Qe g st.L.length J/\V[i]?=some v/\NdW H w a v/\∀ j,j < 11->w.cell? ⟨g,i*11+j,none⟩=(NdV a v)[j]?:=by
 obtain⟨v,c,n⟩:=h.c.get hi;have p:=(List.getElem?_eq_some_iff.1 hi).1;obtain⟨_,m⟩:=h.nodes;rcases m with⟨_,l⟩|⟨g,J,o,d,_,f,_,_,_,e⟩
 ·have:st.L.length=0:=l;omega
 ·refine⟨g,J,v,d,c,n,fun j k=>?_⟩;have b:=bQ7 st.L V i a v hi c j k;rw[<-e,List.getElem?_take,if_pos Oa]at b;rw[cell_of_row _ _ _ _ _ _ f,<-b];simp
theorem bZJ(T:List Tok)(st:QS):∃ x,(bMA T st).L=st.L++[x]/\x.at_=(dD T st.i).e:=by
 have key:∀ (x:NQ) (s:QS),s.L=st.L->(bL2 x s).L=st.L++[{x with f:=-1}]:=fun x s h=>by rw[<-h];rfl
 unfold bMA
 split
 ·exact⟨_,key _ _ (by rw[bMO,bKY]),rfl⟩
 split
 ·exact⟨_,key _ _ bKY,rfl⟩
 ·exact⟨_,key _ _ (bMO 1),rfl⟩
end
section
def QT(t q:Tok):Prop:=q.e=t.e/\((t.d=0/\q.d=0/\q.f=⟨#[]⟩)\/(t.d=1/\q.d=1/\q.f=t.f)\/(t.d=2/\q.d=2/\q.a=t.a)\/(3<=t.d/\t.d<=33/\q.d=3/\q.f=sp t.d.toNat))
def QTL:List Tok->List Tok->Prop
 |[],[]=>True
 |a::l,b::m=>QT a b/\QTL l m
 |_,_=>False
theorem QTL.snoc:∀ {l m:List Tok} {a b:Tok},QTL l m->QT a b->QTL (l++[a]) (m++[b])
 |[],[],_,_,_,h=>Qj
 |_::_,_::_,_,_,h,h2=>⟨h.1,QTL.snoc h.2 h2⟩
theorem bQZ{n:Nat}(h:n < 128):(Utf8.encode (n:Int)).data.toList=[UInt8.ofNat n]:=by
 have b:(List.range 128).all (fun n=>decide ((Utf8.encode (n:Int)).data.toList=[UInt8.ofNat n]))=true:=by rfl
 grind
theorem bRM{r:Int}(h:128<=r):∃ x y l,(Utf8.encode r).data.toList=x::y::l/\128<=x.toNat:=by
 have i:∀ n,192<=n->n < 256->128<=(UInt8.ofNat n).toNat:=fun n e b=>by simp;omega
 have b:∀ v:Int,Utf8.valid v=true->v<=1114111:=(by grind[Utf8.valid]);unfold Utf8.encode;dsimp only
 obtain⟨c,d,f,g⟩:∃ c:Nat,(if Utf8.valid r=true then r.toNat else Utf8.runeError)=c/\128<=c/\c<=1114111:=by
  split
  ·grind
  ·exact⟨_,rfl,Ob,Ob⟩
 rw[d,Oh]
 split
 ·grind
 split
 ·grind
 grind
theorem bVZ{x:UInt8}{l:List UInt8}(h:128<=x.toNat):bsB (x::l)=false:=by
 rw[Bool.eq_false_iff];intro d;obtain⟨j,e,f,c⟩:=bVY 22 12 d;have b:(List.range 34).all (fun k=>match spL k with|y::_=>decide (y.toNat < 128)|_=>true)=true:=by rfl
 have g:=List.all_eq_true.1 b j (List.mem_range.2 Oa);unfold Lib.hasPrefix at c;cases hs:spL j with
 |nil=>grind
 |cons y r=>
  grind
structure Wb(s:ByteArray)(p:Nat)(com:Bool)(l:List Tok)(c:Cut):Prop where
 f:c.f=s
 a:c.a=0
 com_:com=true->c.mode=1
 fin:(c.D p).a=0
 words:QTL (c.D p).words l
 b:com=false->p < s.size->c.goes p (Utf8.decode s p).1=false
theorem bW7{s:ByteArray}{a b:Nat}:(s.data.toList.take b).drop a=bMV s a b:=by
 unfold bMV;rw[Lib.extract_data,List.drop_take]
theorem bO1{s:ByteArray}{p:Nat}(h:p < s.size):bMV s p (p+1)=[s.get! p]:=by
 grind[bMV,bOU,Lib.extract_data]
theorem bZY{X:ByteArray}{l:List UInt8}(h:X.data.toList=l):X=⟨l.toArray⟩:=by rw[<-h]
theorem bTM{s:ByteArray}{p:Nat}(b:p < s.size):(s.extract p s.size).extract 0 1=⟨#[s.get! p]⟩/\(p+1 < s.size->(s.extract p s.size).extract 0 2=⟨#[s.get! p,s.get! (p+1)]⟩)/\lgB (s.extract p s.size)=(decide (p+1 < s.size)&&bsB [s.get! p,s.get! (p+1)])/\shB (s.extract p s.size)=spB [s.get! p]:=by
 have hsz:(s.extract p s.size).size=s.size - p:=Od
 obtain⟨e,f,g⟩:=bTT (s.get! p);have u0:(s.extract p s.size).get! 0=s.get! p:=by rw[bO7,Nat.add_zero]
 have u1:(s.extract p s.size).get! 1=s.get! (p+1):=bO7 _ _ _
 have c:(s.extract p s.size).extract 0 1=⟨#[s.get! p]⟩:=by
  refine bZY (l:=[s.get! p]) ?_;rw[ByteArray.extract_extract,show min (p+1) s.size=p+1 by omega,Nat.add_zero];exact bO1 b
 have d:p+1 < s.size->(s.extract p s.size).extract 0 2=⟨#[s.get! p,s.get! (p+1)]⟩:=fun h=>by
  refine bZY (l:=[s.get! p,s.get! (p+1)]) ?_;rw[ByteArray.extract_extract,show min (p+2) s.size=p+2 by omega,Nat.add_zero];show bMV s p (p+1+1)=_
  grind[bOU,bO1]
 grind[lgB,bsB,shB,spB,bS2,bRQ]
theorem bXC{s:ByteArray}{c:Cut}{p:Nat}(f:p < s.size)(o:c.f=s)(D:c.a=0)(F:c.mode=4)(x:c.start=p):
 (sgQ (s.extract p s.size)=⟨#[]⟩->(Dn s c (p+1)).a=1/\(Dn s c (p+1)).e=p)/\
 (sgQ (s.extract p s.size)≠⟨#[]⟩->Dn s c (p+1)=Dn s c (p+(sgQ (s.extract p s.size)).size)/\p+(sgQ (s.extract p s.size)).size<=s.size/\(p+(sgQ (s.extract p s.size)).size < s.size->c.goes (p+(sgQ (s.extract p s.size)).size) (Utf8.decode s (p+(sgQ (s.extract p s.size)).size)).1=false)/\∃ k:Nat,3<=k/\k<=33/\sgQ (s.extract p s.size)=sp k/\c.D (p+(sgQ (s.extract p s.size)).size)=c.push k 0 (ByteArray.mk #[])):=by
 have hsz:(s.extract p s.size).size=s.size - p:=by rw[ByteArray.size_extract];omega
 have y:∀ q r,c.goes q r=bsB (bMV s p q++(Utf8.encode r).data.toList):=fun q r=>by
  unfold Cut.goes;rw[Oh,Oh,Oh,if_pos F,o,x,Int.toNat_natCast,bW7]
 have u:∀ q,c.D q=if spB (bMV s p q)=true then c.push (spK (bMV s p q)) 0 (ByteArray.mk #[])else c.fail 1 p:=fun q=>by
  unfold Cut.D;rw[Oh,Oh,if_pos F,o,x,Int.toNat_natCast];unfold Cut.sign;rw[x];rfl
 obtain⟨K,L,G,C⟩:=bTM f
 have Q:(p+1 < s.size->bsB [s.get! p,s.get! (p+1)]=false)->(p+1 < s.size->c.goes (p+1) (Utf8.decode s (p+1)).1=false):=fun R h=>by
  rw[y,bO1 f]
  by_cases d:(s.get! (p+1)).toNat < 128
  ·have m:Utf8.decode s (p+1)=((s.get! (p+1)).toNat,1):=by
    rw[bGP h]at d ⊢;exact decode_ascii s (p+1) h d
   rw[m,bQZ d,UInt8.ofNat_toNat];exact R h
  ·have m:128<=(Utf8.decode s (p+1)).1:=by
    rw[bGP h]at d;exact(decode_high s (p+1) h Oa).1
   obtain⟨W,J,l,i,b⟩:=bRM (r:=((Utf8.decode s (p+1)).1:Int)) Oa;rw[i,Bool.eq_false_iff];intro z;have:=(bRQ (l:=J::l) z).1;cases this
 by_cases b:lgB (s.extract p s.size)=true
 ·have j:sgQ (s.extract p s.size)=(s.extract p s.size).extract 0 2:=by unfold sgQ;rw[if_pos b]
  rw[G]at b;simp only[Bool.and_eq_true,decide_eq_true_eq]at b;rw[L b.1]at j;rw[j];have t:=(bS2 (s.get! p) (s.get! (p+1))).2 b.2;have d:(s.get! (p+1)).toNat < 128:=by have:=(bRQ b.2).2;omega
  have m:Utf8.decode s (p+1)=((s.get! (p+1)).toNat,1):=by
   rw[bGP b.1]at d ⊢;exact decode_ascii s (p+1) b.1 d
  have I:bMV s p (p+2)=[s.get! p,s.get! (p+1)]:=by
   show bMV s p (p+1+1)=_;rw[bOU b.1 Oa,bO1 f];rfl
  refine⟨fun h=>absurd (congrArg ByteArray.size h) (show ¬(2:Nat)=0 by decide),fun _=>?_⟩;show Dn s c (p+1)=Dn s c (p+2)/\p+2<=s.size/\(p+2 < s.size->c.goes (p+2) (Utf8.decode s (p+2)).1=false)/\∃ k:Nat,3<=k/\k<=33/\_=sp k/\c.D (p+2)=_;refine⟨?_,b.1,fun h=>?_,spK [s.get! p,s.get! (p+1)],(bON t).2.1,(bON t).2.2,?_,?_⟩
  ·rw[bU0 o b.1 D (by rw[y,m,bO1 f,bQZ d,UInt8.ofNat_toNat];exact b.2),m];rfl
  ·rw[y,I,Bool.eq_false_iff];intro z;have n:(Utf8.encode ((Utf8.decode s (p+2)).1:Int)).data.toList=[]:=(bRQ z).1
   by_cases S:(Utf8.decode s (p+2)).1 < 128
   ·rw[bQZ S]at n;cases n
   ·obtain⟨W,J,l,i,_⟩:=bRM (r:=((Utf8.decode s (p+2)).1:Int)) Oa;rw[i]at n;cases n
  ·exact(bS8.2 (bON t).1).symm
  ·rw[u,I,if_pos t]
 ·have i:=Q (fun h=>by
   rw[G,decide_eq_true h,Bool.true_and]at b;simpa using b)
  by_cases g:spB [s.get! p]=true
  ·have j:sgQ (s.extract p s.size)=⟨#[s.get! p]⟩:=by unfold sgQ;rw[if_neg b,C,if_pos g,K]
   rw[j];refine⟨fun h=>absurd (congrArg ByteArray.size h) (show ¬(1:Nat)=0 by decide),fun _=>?_⟩;show Dn s c (p+1)=Dn s c (p+1)/\p+1<=s.size/\(p+1 < s.size->c.goes (p+1) (Utf8.decode s (p+1)).1=false)/\∃ k:Nat,3<=k/\k<=33/\_=sp k/\c.D (p+1)=_;refine⟨rfl,f,i,spK [s.get! p],(bON g).2.1,(bON g).2.2,(bS8.2 (bON g).1).symm,?_⟩;rw[u,bO1 f,if_pos g]
  ·have j:sgQ (s.extract p s.size)=⟨#[]⟩:=by unfold sgQ;rw[if_neg b,C,if_neg g]
   refine⟨fun _=>?_,fun h=>absurd j h⟩;have E:c.D (p+1)=c.fail 1 p:=by rw[u,bO1 f,if_neg g]
   obtain⟨A,M⟩:=bQ0 (e:=1) (p:=p) D;obtain⟨N,P⟩:=bV1 (p:=p+1) o f i (by rw[E,A];decide);rw[N,P,E];exact⟨A,M⟩
theorem bZX{l:List UInt8}:∀ (n k j:Nat),k<=j->j < k+n->Lib.hasPrefix (spL j) l=true->tV l k n=true
 |0,_,_,h1,h2,_=>Oa
 |n+1,k,j,h1,h2,h3=>by
  unfold tV;rcases Nat.eq_or_lt_of_le h1 with rfl|h
  ·simp[*]
  ·rw[bZX n (k+1) j h Oa h3,Bool.or_true]
theorem cAU{a b:UInt8}{l:List UInt8}(h:bsB (a::b::l)=true):bsB [a]=true:=by
 obtain⟨j,c,d,e⟩:=bVY 22 12 h;refine bZX 22 12 j c d ?_;unfold Lib.hasPrefix at e ⊢;cases hs:spL j with
 |nil=>grind
 |cons x r=>
  grind
theorem bWP{s:ByteArray}{p:Nat}(b:p < s.size)(h:oK (Utf8.decode s p).1=true):(97<=(s.get! p).toNat/\(s.get! p).toNat<=122)\/(65<=(s.get! p).toNat/\(s.get! p).toNat<=90)\/(s.get! p).toNat=95\/128<=(s.get! p).toNat:=by
 grind[Utf8.decode,oK]
theorem bV2{s:ByteArray}{p A:Nat}(c:0 < A)(d:p+A<=s.size):∃ l,(s.extract p (p+A)).data.toList=s.get! p::l:=by
 have b:=(bTW (k:=0) c d).1;have e:=(bTW (k:=0) c d).2;rw[Nat.add_zero]at b;have:=bU3 (s:=s.extract p (p+A)) (p:=0) Oa;rw[List.drop_zero,b]at this;exact⟨_,this⟩
theorem bYX{X:ByteArray}{A K b:Nat}(e:X.size=A)(f:0 < A)(d:(Utf8.decode X 0).2=b)(i:1<=b)(g:1<=K)(h:∀ c,A - b<=c->Lib.runeCountFrom X c b=K - 1+Lib.runeCountFrom X (c - (K - 1)) A):Lib.runeCount X=K:=by
 obtain⟨B,rfl⟩:∃ B,A=B+1:=Qh;unfold Lib.runeCount;rw[e,Lib.runeCountFrom,if_pos Oa,Nat.zero_add,d,h B Oa,Lib.runeCountFrom_end _ _ _ Oa];omega
theorem bIF{s:ByteArray}{cf:Cut}{p:Nat}(f:p < s.size)(k:cf.f=s)(i:cf.a=0)(z0:vH s p (Utf8.decode s p).1=false)(y5:aA0 (Utf8.decode s p).1=false)(a5:(Utf8.decode s p).1≠35){D:Cut}(d:D=if(cf.N p (Utf8.decode s p).1).a≠0 then cf.N p (Utf8.decode s p).1 else Dn s (cf.N p (Utf8.decode s p).1) (p+(Utf8.decode s p).2)):
 ((bMI s p).2.2≠0->D.a=(bMI s p).2.2/\D.e=p)/\((bMI s p).2.2=0->∃ (c:Cut) (t:Tok),D=Dn s c (p+(bMI s p).2.1)/\c.f=s/\c.a=0/\(p+(bMI s p).2.1 < s.size->c.goes (p+(bMI s p).2.1) (Utf8.decode s (p+(bMI s p).2.1)).1=false)/\(c.D (p+(bMI s p).2.1)).a=0/\(c.D (p+(bMI s p).2.1)).words=cf.words++[t]/\QT t (bMI s p).1):=by
 have hw:=Lib.decode_width_pos s p f;have hl:=zW s p f;have hsz:(s.extract p s.size).size=s.size - p:=by rw[ByteArray.size_extract];omega
 have y9:chQ ((s.extract p s.size).extract 0 (s.extract p s.size).size)=(((Utf8.decode s p).1:Int),((Utf8.decode s p).2:Int)):=by
  rw[bVJ,Nat.add_zero];rcases bQ3 s p with⟨_,o,_⟩|⟨z,_⟩
  ·rw[z0]at o;cases o
  ·exact z
 have E:nmQ (s.extract p s.size)=if oK (Utf8.decode s p).1=true then nmL (s.extract p s.size) (s.extract p s.size).size (Utf8.decode s p).2 1 else(0,0):=by
  unfold nmQ;rw[nmL,if_pos Oa,y9];simp only[Int.toNat_natCast,Nat.zero_add]
  by_cases j:oK (Utf8.decode s p).1=true
  ·rw[if_pos j,if_neg];rintro(h|⟨h,_⟩)
   ·omega
   ·rw[j]at h;cases h
  ·rw[if_neg j,if_pos (.r ⟨by simpa using j,.r trivial⟩)]
 have z1:cf.N p (Utf8.decode s p).1=if oK (Utf8.decode s p).1=true then {cf with start:=p,mode:=2}else if kZ (Utf8.decode s p).1=true then {cf with start:=p,mode:=3}else if bsB (Utf8.encode (Utf8.decode s p).1).data.toList=true then {cf with start:=p,mode:=4}else({cf with start:=p}:Cut).fail 1 p:=by
  unfold Cut.N;rw[if_neg (by rw[y5];decide),Oh]
 rw[z1]at d;unfold bMI;dsimp only
 by_cases j:oK (Utf8.decode s p).1=true
 ·
   rw[if_pos j]at E;rw[if_pos j,if_neg (by show ¬cf.a≠0;omega)]at d;obtain⟨n1,I,x,n4⟩:=bY3 (c:={cf with start:=p,mode:=2}) k rfl i (Nat.le_of_lt f) (s.extract p s.size).size (Utf8.decode s p).2 1 Ob hl (by rw[hsz];omega);have N:=bZS (s.extract p s.size) (s.extract p s.size).size (Utf8.decode s p).2 1;rw[E];generalize nmL (s.extract p s.size) (s.extract p s.size).size (Utf8.decode s p).2 1=AK at*;obtain⟨A,K⟩:=AK;dsimp only at n1 I x n4 N ⊢
   have y8:(s.extract p s.size).extract 0 A=s.extract p (p+A):=by
    rw[ByteArray.extract_extract,Nat.add_zero,Nat.min_eq_left x]
   have y4:(s.extract p (p+A)).size=A:=by rw[ByteArray.size_extract];omega
   have y3:Lib.runeCount (s.extract p (p+A))=K:=by
    have Q:=bU1 (s:=s) (p:=p) (A:=A) (a:=0) x (.l j) (by simpa using N.1) Oa;rw[Nat.add_zero]at Q;exact bYX y4 Oa (congrArg Prod.snd Q) hw N.2 (n4 A Ol x)
   rw[if_pos (show 0 < A by omega),y8];obtain⟨l,y7⟩:=bV2 (A:=A) Oa x;obtain⟨o1,o2⟩:=cAF y7 (bWP f j)
   have g:({cf with start:=p,mode:=2}:Cut).D (p+A)=if 12 < K then({cf with start:=p,mode:=2}:Cut).fail 1 p else if spB (s.extract p (p+A)).data.toList=true then({cf with start:=p,mode:=2}:Cut).push (spK (s.extract p (p+A)).data.toList) 0 (ByteArray.mk #[])else({cf with start:=p,mode:=2}:Cut).push 1 0 (s.extract p (p+A)):=by
    unfold Cut.D;rw[if_pos rfl];unfold Cut.named;show(if 12 < Lib.runeCount (cf.f.extract (p:Int).toNat (p+A))then _ else _)=_;rw[k,Int.toNat_natCast,y3]
   rw[n1]at d
   by_cases y1:12 < K
   ·rw[if_pos y1]at g ⊢;refine⟨fun _=>?_,fun h=>absurd h (show ¬(1:Int)=0 by decide)⟩;obtain⟨y,J⟩:=bQ0 (c:=({cf with start:=p,mode:=2}:Cut)) (e:=1) (p:=p) i;obtain⟨g1,g2⟩:=bV1 (c:=({cf with start:=p,mode:=2}:Cut)) k x I (by rw[g,y];decide);rw[d,g1,g2,g];exact⟨y,J⟩
   ·rw[if_neg y1]at g ⊢;refine⟨fun h=>absurd rfl h,fun _=>?_⟩
    by_cases q:spB (s.extract p (p+A)).data.toList=true
    ·rw[if_pos q]at g;refine⟨_,⟨spK (s.extract p (p+A)).data.toList,p,ByteArray.mk #[],0⟩,d,k,i,I,by rw[g];exact i,by rw[g];rfl,?_⟩;have a3:=o2 q;obtain⟨q1,q2,q3⟩:=bON q;rw[o1,q,if_pos rfl];exact⟨rfl,.r (.r (.r ⟨by show(3:Int)<=((spK _:Nat):Int);omega,by show((spK _:Nat):Int)<=33;omega,rfl,by show _=sp ((spK _:Nat):Int).toNat;rw[Int.toNat_natCast];exact(bS8.2 q1).symm⟩))⟩
    ·rw[if_neg q]at g;refine⟨_,⟨1,p,s.extract p (p+A),0⟩,d,k,i,I,by rw[g];exact i,by rw[g];rfl,?_⟩;rw[o1,if_neg q];exact⟨rfl,.r (.l ⟨rfl,rfl,rfl⟩)⟩
 rw[if_neg j]at E d;rw[E,if_neg Ob]
 by_cases G:kZ (Utf8.decode s p).1=true
 ·
   rw[if_pos G,if_neg (by show ¬cf.a≠0;omega)]at d;have y0:=(bQ2 f).1 G;have C:=bR0 f y0;rw[C]at d;have n:=bRB (s:=s) (a:=p) (b:=p) f Ol;have z3:bCW (bMV s p p)=0:=by unfold bMV;rw[Lib.extract_data];simp[bCW]
   rw[z3]at n;obtain⟨W,Z⟩:=bZ2 (c:={cf with start:=p,mode:=3}) k rfl i rfl (s.extract p s.size).size 1 (((s.get! p).toNat:Int) - 48) Oa (by rw[hsz];omega) (by rw[n];omega) Oa Oa
   have P:dgQ (s.extract p s.size)=dgL (s.extract p s.size) (s.extract p s.size).size 1 (((s.get! p).toNat:Int) - 48):=by
    unfold dgQ;rw[dgL,bO7,Nat.add_zero,if_pos ⟨Oa,y0⟩,Oh];rw[show(10:Int)*0+(((s.get! p).toNat:Int) - 48)=((s.get! p).toNat:Int) - 48 by omega]
   rw[P];generalize dgL (s.extract p s.size) (s.extract p s.size).size 1 (((s.get! p).toNat:Int) - 48)=R at*;obtain⟨A,a1,a2⟩:=R;dsimp only at W Z ⊢;cases a2
   ·obtain⟨L,M,j3,j4,j5,j6⟩:=W rfl;rw[if_neg Ob,if_pos Oa];refine⟨fun h=>absurd rfl h,fun _=>?_⟩
    have g:({cf with start:=p,mode:=3}:Cut).D (p+A)=({cf with start:=p,mode:=3}:Cut).push 2 a1 (ByteArray.mk #[]):=by
     rw[bRC (p:=p) rfl rfl];show(if 999999999 < bCW (bMV cf.f p (p+A))then _ else _)=_;rw[k,<-j4,Oh]
    exact⟨_,⟨2,p,ByteArray.mk #[],a1⟩,d.t L,k,i,M,by rw[g];exact i,by rw[g];rfl,rfl,.r (.r (.l ⟨rfl,rfl,rfl⟩))⟩
   ·obtain⟨L,M⟩:=Z rfl;rw[if_pos rfl];refine⟨fun _=>?_,fun h=>absurd h (show ¬(3:Int)=0 by decide)⟩;rw[d];exact⟨L,M⟩
 rw[if_neg G]at d
 have P:dgQ (s.extract p s.size)=(0,0,false):=by
  unfold dgQ;rw[dgL,bO7,Nat.add_zero,if_neg];rintro⟨_,z,o⟩;exact G ((bQ2 f).2 ⟨z,o⟩)
 rw[P,if_neg Ob,if_neg Ob]
 by_cases v:bsB (Utf8.encode (Utf8.decode s p).1).data.toList=true
 ·
   rw[if_pos v,if_neg (by show ¬cf.a≠0;omega)]at d
   have a4:(Utf8.decode s p).1 < 128:=by
    rcases Qt (Utf8.decode s p).1 128 with h|h
    ·exact h
    ·obtain⟨a6,a7,l,z,o⟩:=bRM (r:=((Utf8.decode s p).1:Int)) Oa;rw[z,bVZ o]at v;cases v
   have m:(s.get! p).toNat < 128:=by
    rcases Qt (s.get! p).toNat 128 with h|h
    ·exact h
    ·rw[bGP f]at h;exact absurd (decode_high s p f Oa).1 Oa
   have C:Utf8.decode s p=((s.get! p).toNat,1):=by
    rw[bGP f]at m ⊢;exact decode_ascii s p f m
   rw[C]at d;obtain⟨s1,s2⟩:=bXC (c:={cf with start:=p,mode:=4}) f k i rfl rfl
   by_cases u:sgQ (s.extract p s.size)=⟨#[]⟩
   ·rw[if_pos u];refine⟨fun _=>?_,fun h=>absurd h (show ¬(1:Int)=0 by decide)⟩;rw[d];exact s1 u
   ·rw[if_neg u];obtain⟨k1,k2,k3,F,k4,k5,k6,S⟩:=s2 u;refine⟨fun h=>absurd rfl h,fun _=>⟨_,⟨F,p,ByteArray.mk #[],0⟩,d.t k1,k,i,k3,by rw[S];exact i,by rw[S];rfl,rfl,.r (.r (.r ⟨by show(3:Int)<=(F:Int);omega,by show(F:Int)<=33;omega,rfl,by show sgQ _=sp (F:Int).toNat;rw[Int.toNat_natCast];exact k6⟩))⟩⟩
 ·rw[if_neg v]at d;obtain⟨y,J⟩:=bQ0 (c:=({cf with start:=p}:Cut)) (e:=1) (p:=p) i;rw[if_pos (by rw[y];decide)]at d
  have u:sgQ (s.extract p s.size)=⟨#[]⟩:=by
   obtain⟨_,_,y6,y2⟩:=bTM f
   have n:bsB [s.get! p]=false:=by
    by_cases m:(s.get! p).toNat < 128
    ·have C:Utf8.decode s p=((s.get! p).toNat,1):=by
      rw[bGP f]at m ⊢;exact decode_ascii s p f m
     have e:((Utf8.decode s p).1:Int)=((s.get! p).toNat:Int):=by rw[C]
     rw[e,bQZ m,UInt8.ofNat_toNat]at v;exact Bool.eq_false_iff.2 v
    ·exact bVZ (Nat.le_of_not_lt m)
   have z2:bsB [s.get! p,s.get! (p+1)]=false:=by
    rw[Bool.eq_false_iff];intro h;rw[cAU h]at n;cases n
   unfold sgQ;rw[y6,z2,Bool.and_false,y2,if_neg Ob,if_neg];intro h;rw[(bTT (s.get! p)).2.2 h]at n;cases n
  rw[if_pos u];refine⟨fun _=>?_,fun h=>absurd h (show ¬(1:Int)=0 by decide)⟩;rw[d];exact⟨y,J⟩
end
end Go.Proofs.YtikffmloeifkpaaGreatDoor
