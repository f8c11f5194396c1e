/- Contracts. -/
import Derived.Test.YtikffmloeifkpaaGreatDoorR20
set_option maxHeartbeats 16000000
set_option maxRecDepth 100000
namespace Go.Proofs.YtikffmloeifkpaaGreatDoor
open Go.RowKit Go.Lib Go.Deep Go.ChangeMaps Go.MapKept Tryz
section
variable {H O U gw cw B X:Nat} {T:List aU} {st:QS} {Y vI:Value} {V:List V3} {w:World} {a:NQ} {v:V3}
theorem Bx.e(h:Bx H O U gw Y vI V B X a v w)(p:Int):Bx H O U gw Y vI V B X {a with at_:=p} v (w.setCell ⟨X,1,none⟩ (Qc p)):=
 have m:uA H (w.setCell ⟨X,1,none⟩ (Qc p)) a v:=h.n.move (fun _ b=>Om (h.ne b))
 ⟨aI _ h.c,h.o,h.m,⟨m.k,m.p,m.h⟩,h.u⟩
theorem Bx.h(h:Bx H O U gw Y vI V B X a v w)(s:ByteArray):Bx H O U gw Y vI V B X {a with s:=s} v (w.setCell ⟨X,2,none⟩ (.string s)):=
 have m:uA H (w.setCell ⟨X,2,none⟩ (.string s)) a v:=h.n.move (fun _ b=>Om (h.ne b))
 ⟨aI _ h.c,h.o,h.m,⟨m.k,m.p,m.h⟩,h.u⟩
theorem aXM(K:Nat)(hK:K<=40000)(E C B:QS->QS × Int)(gE:oG E)(gC:Grn 3 C)(gB:oG B)(a8:Nat)(hE:mT H O U gw cw T vI 290 #[Qd O] E T.length)(hC:mC 40000 H O U gw cw T vI 331 #[Qd O] C T.length)(hB:mC K H O U gw cw T vI 171 #[Qd O] B a8):aUB K H O U gw cw T vI (jQ T E C B) (a8+1):=by
 intro st Y V w c m3 h8 h hN hr;have HE:Hid (mT H O U gw cw T vI 290 #[Qd O] E T.length):=hE;have HB:Hid (mC K H O U gw cw T vI 171 #[Qd O] B a8):=hB;have HC:Hid (mC 40000 H O U gw cw T vI 331 #[Qd O] C T.length):=hC;have m4:bZ T (aG T st)<=a8:=Qm ((Gr.bz T st).need (T:=T)) Oa;have g6:(aE T st.i).d≠0->(aG T st).i<=T.length->fJ T (aG T st) c 8:=fun n hl=>hr.b n hl;clear hE hB hC hN;obtain⟨p0,p1,_,_,_,_,_⟩:=h.cells;obtain⟨x0,x1,x2,x3⟩:=h.w4;have i3:=h.lt;have i1:=h.few;have i5:=h.lt_pb;have i2:gw < w.1.size:=Qp w _ x0;have hi:0<=(st.i:Int)/\(st.i:Int) < (T.length:Int):=Oa
 have i4:=h.fresh Ol;have N:=(h.alloc (eS (aE T st.i))).drew;have xA:=((Px.refl O U Y V w).alloc (eS (aE T st.i))).drew;have qA:(w.alloc (eS (aE T st.i))).drew.1[w.1.size]?=some (Qf #[Qc (aE T st.i).d,Qc (aE T st.i).e,.string (aE T st.i).f,Qc (aE T st.i).a] 220):=Qk w _;have sA:(w.alloc (eS (aE T st.i))).drew.1.size=w.1.size+1:=by simp[World.drew]
 clear h;go_enter func231,ntmps231
 go_upto_region 1 with fail
 go_region
 clear p0 p1 x0 x1 x2 x3;generalize (w.alloc (eS (aE T st.i))).drew=d5 at*;have b2:=N.boxed xA {d:=0,at_:=(aE T st.i).e} ⟨rfl,rfl,rfl,rfl,rfl,rfl,rfl,rfl⟩;have h2:=N.alloc (tS {d:=0,at_:=(aE T st.i).e});have y2:=xA.alloc (tS {d:=0,at_:=(aE T st.i).e});have q2:(d5.alloc (tS {d:=0,at_:=(aE T st.i).e})).1[w.1.size]?=some (Qf #[Qc (aE T st.i).d,Qc (aE T st.i).e,.string (aE T st.i).f,Qc (aE T st.i).a] 220):=(On Oa).t qA;obtain⟨_,m1,_,_,_⟩:=bK qA;rw[sA]at b2;clear N xA;go_upto_region 3 with fail
 clear m1 qA;generalize d5.alloc (tS {d:=0,at_:=(aE T st.i).e})=W2 at*;obtain⟨l0,l1,l2,l3,_⟩:=bK q2
 by_cases k1:(aE T st.i).d=1
 ·
   have u1:((aE T st.i).d==1)=true:=by simp[k1]
   have g9:(aE T st.i).d≠0:=Oa
   have HZ:Hid (jQ T E C B st=(if dF T (aG T st) qD=true then lK T E {d:=14,at_:=(aE T st.i).e,s:=(aE T st.i).f,c:=[(E (aO T qD (aG T st))).2]} (cO T mF (cN T tI (E (aO T qD (aG T st))).1))
    else lK T E {d:=13,at_:=(aE T st.i).e,s:=(aE T st.i).f} (cO T mF (aG T st)))):=by
    unfold Hid jQ;dsimp only;rw[if_pos k1]
   clear k1;go_wp2_with fail
   refine(lG h2).mono ?_;rintro e w3 ⟨rfl,h3,M⟩;unfold aU.g;have b3:=b2.px (Px.i0 M (Y:=Y) (V:=V));have y3:=y2.t (Px.i0 M);have q3:=(M.block _ (Oo q2) Oa).t q2;have g8:=g6 g9 (Nat.le_of_lt h3.lt);clear l0 l1 l2 l3 b2 h2 y2 q2 M g6 hr;have I:=b3.d 13;have h4:=h3.u0 b3.o 0 (Qc 13);have y4:=y3.j0 b3.m 0 (Qc 13);have b5:=I.h (aE T st.i).f;have h5:=h4.u0 I.o 2 (.string (aE T st.i).f);have y5:=y4.j0 I.m 2 (.string (aE T st.i).f);obtain⟨⟨g0,g1,g2,_,_,_⟩,_,gf⟩:=b3.cells;obtain⟨⟨d0,d1,d2,_,_,_⟩,_,df⟩:=I.cells;obtain⟨l0,l1,l2,l3,_⟩:=bK q3;have g7:w.1.size≠w.1.size+1:=Oa
   obtain⟨r0,r1,r2,r3,_⟩:=bK ((Below.heap_setCell w3 ⟨w.1.size+1,0,none⟩ (Qc 13) w.1.size g7).t q3);have c7:=gf 0;have f7:=df 2;clear b3 h3 y3 I h4 y4 gf df;generalize aG T st=s3 at*;go_wp2_with fail
   refine(pG qD h5).mono ?_;rintro e w6 ⟨rfl,n6,rfl⟩;have b6:Bx H O U gw Y vI V w.1.size (w.1.size+1) {d:=13,at_:=(aE T st.i).e,s:=(aE T st.i).f} v0 (((w3.setCell ⟨w.1.size+1,0,none⟩ (Qc 13)).setCell ⟨w.1.size+1,2,none⟩ (.string (aE T st.i).f)).drewN n6):=b5.old (fun _ _=>rfl);have h6:=h5.drewN n6;have y6:=y5.drewN n6;clear l0 l1 l2 l3 r0 r1 r2 r3 g0 g1 g2 d0 d1 d2 c7 f7 b5 h5 y5 q3;generalize ((w3.setCell ⟨w.1.size+1,0,none⟩ (Qc 13)).setCell ⟨w.1.size+1,2,none⟩ (.string (aE T st.i).f)).drewN n6=W6 at*;cases hbr:dF T s3 qD
   ·
     have P:Hid (jQ T E C B st=lK T E {d:=13,at_:=(aE T st.i).e,s:=(aE T st.i).f} (cO T mF s3)):=by rw[Hid,HZ.o,hbr];rfl
     clear HZ;go_wp2_with fail
     refine(rM mF h6).mono ?_;rintro e WT ⟨rfl,hT,e7⟩;obtain⟨v1,J⟩:∃ v1,Bx H O U gw Y vI V w.1.size (w.1.size+1) {d:=13,at_:=(aE T st.i).e,s:=(aE T st.i).f} (v1,.slice none 0 0,.slice none 0 0) WT:=⟨_,b6.px (Px.i0 e7 (Y:=Y) (V:=V))⟩;have yT:=y6.t (Px.i0 e7);have Q:=g8.gr (Gr.must T mF s3) (Nat.le_of_lt hT.lt) Oa;have j7:({d:=13,at_:=(aE T st.i).e,s:=(aE T st.i).f}:NQ).g=[]/\({d:=13,at_:=(aE T st.i).e,s:=(aE T st.i).f}:NQ).e=[]:=⟨rfl,rfl⟩;have d7:({d:=13,at_:=(aE T st.i).e,s:=(aE T st.i).f}:NQ).c.length<=2:=Od
     clear b6 h6 y6 e7 g8;generalize cO T mF s3=j at*;generalize ({d:=13,at_:=(aE T st.i).e,s:=(aE T st.i).f}:NQ)=g at*;obtain⟨ao,r,rfl,_⟩:=bP J.n.k;go_wp2_with fail
     refine(HE.o _ _ _ _ c Oa hT (nZ T j) Q.room).mono ?_;rintro e f ⟨rfl,A,p,i,R⟩;have b:=J.px R;have k:=yT.t R;have a3:=gE j;have j0:=Q.gr a3 (Nat.le_of_lt i.lt) Oa;have j6:Hid (jQ T E C B st=(cQ {g with c:=g.c++[(E j).2]} (cO T tH (E j).1),((E j).1.L.length:Int))):=P;clear J hT yT Q R P a3;generalize (E j).2=y at*;generalize (E j).1=F at*;obtain⟨i0,j5,y0,j4,j3⟩:=info_parts info3;have m:=b.old (w':=f.alloc (Qf #[Qc y] 3)) (fun _ n=>On n);obtain⟨⟨_,_,_,_,_,q⟩,_,_⟩:=b.cells;have q:f.cell? ⟨w.1.size+1,5,none⟩=some (.slice ao g.c.length r):=q;obtain⟨⟨_,_,_,_,_,W⟩,_,yf⟩:=m.cells;have Z:=yf 5;have d4:=i.t0;have k7:=b.lt;have k0:=b.n.k;have z:some (w.1.size+1)≠(Value.slice ao g.c.length r).ownBlock:=fun e=>b.ne (.l e.symm) rfl;have k9:Hid (Bx H O U gw A vI p w.1.size (w.1.size+1) g (.slice ao g.c.length r,.slice none 0 0,.slice none 0 0) f/\PW H O U gw cw T F A vI p f/\Px O U Y A V p w f):=⟨b,i,k⟩;clear yf b i k m;go_upto_region 17 with(at_builtin;refine wpList_append_lies _ rfl _ _ 70 rfl H 3 i0 _ 1 8 underlying70 j5 y0 j4 j3 rfl Oa (.slice ao g.c.length r) g.c.length (fQ g.c) rfl (k0.alloc _) ⟨f.1.size,0,none⟩ 1 1 [Qc y] rfl rfl (World.news_of_block (cs:=#[Qc y]) (t:=3) (fr:=(0,0)) (Qk f _)) (by simp[Value.oneCell']) Oa (by unfold maxLen;omega) Oa (by simp;omega) (f.1.size+1) Od ?_;intro gg c5 w9 h1 h0 k8 k3;have q5:=(h0.frozen_far ⟨w.1.size+1,5,none⟩ (by simp;omega) z).t Z;have q6:=(h0.cell_far ⟨w.1.size+1,5,none⟩ (by simp;omega) z).t W)
     obtain⟨b,i,k⟩:=k9.o;obtain⟨S,j2,a4⟩:=b.kid i k rfl j7 (x:=y) (w1:=f.alloc (Qf #[Qc y] 3)) ⟨rfl,rfl,rfl,Od⟩ (fun _ n=>On n) h1 h0 (k8.imp id (fun e=>by simpa using e));clear b i k k9 k0 h1 h0 k8 k3 q5 q6 q W Z k7 z;go_wp2_with fail
     refine(rM tH j2).mono ?_;rintro e c8 ⟨rfl,D,L⟩;have o:=S.px (Px.i0 L (Y:=A) (V:=p));have G:=a4.t (Px.i0 L);have k6:(cO T tH F).L.length<=200000:=by rw[fV];unfold fJ at j0;omega
     obtain⟨⟨z0,z1,z2,z3,z4,z5⟩,⟨z6,z7,z8,z9,a7⟩,zf⟩:=o.cells;clear S j2 a4 L;go_wp2_with fail
     refine(rX o D G k6).mono ?_;rintro e b9 ⟨rfl,N⟩;have HA:Hid _:=N;clear N o D G z0 z1 z2 z3 z4 z5 z6 z7 z8 z9 a7 zf;go_wp2;go_ret;rw[j6.o,fV];exact⟨rfl,HA.o⟩
   ·
     have y0:Hid (jQ T E C B st=lK T E {d:=14,at_:=(aE T st.i).e,s:=(aE T st.i).f,c:=[(E (aO T qD s3)).2]} (cO T mF (cN T tI (E (aO T qD s3)).1))):=by rw[Hid,HZ.o,hbr];rfl
     have b7:=b6.d 14;have h7:=h6.u0 b6.o 0 (Qc 14);have y7:=y6.j0 b6.m 0 (Qc 14);obtain⟨⟨g0,_⟩,_,gf⟩:=b6.cells;have c7:=gf 0;clear HZ gf b6 h6 y6;go_wp2_with fail
     refine(yU qD h7).mono ?_;rintro e f ⟨rfl,i,e8⟩;have b:=b7.px (Px.i0 e8 (Y:=Y) (V:=V));have k:=y7.t (Px.i0 e8);have j0:=g8.gr (Gr.opn T qD s3) (Nat.le_of_lt i.lt) Oa;clear b7 h7 y7 e8 g8 g0 c7;generalize aO T qD s3=F at*;have a3:=gE F;go_wp2_with fail
     refine(HE.o _ _ _ _ c Oa i (nZ T F) j0.room).mono ?_;rintro e w9 ⟨rfl,a6,V9,h9,x9⟩;have m:=b.px x9;have y9:=k.t x9;have d9:=j0.gr a3 (Nat.le_of_lt h9.lt) Oa;clear b i k x9 j0 a3;generalize (E F).2=a5 at*;generalize (E F).1=s9 at*;obtain⟨i0,j5,j9,j4,j3⟩:=info_parts info3;have S:=m.old (w':=w9.alloc (Qf #[Qc a5] 3)) (fun _ n=>On n);obtain⟨⟨_,_,_,_,_,q⟩,_,_⟩:=m.cells;have q:w9.cell? ⟨w.1.size+1,5,none⟩=some (.slice none 0 0):=q;obtain⟨⟨_,_,_,_,_,W⟩,_,yf⟩:=S.cells;have Z:=yf 5;have i6:=h9.t0;have d6:=m.lt;have k0:=m.n.k;have z:some (w.1.size+1)≠v0.1.ownBlock:=by simp[v0,Value.ownBlock]
     have k9:Hid (Bx H O U gw a6 vI V9 w.1.size (w.1.size+1) {d:=14,at_:=(aE T st.i).e,s:=(aE T st.i).f} v0 w9/\PW H O U gw cw T s9 a6 vI V9 w9/\Px O U Y a6 V V9 w w9):=⟨m,h9,y9⟩;clear yf m h9 y9 S;go_upto_region 13 with(at_builtin;refine wpList_append_lies _ rfl _ _ 70 rfl H 3 i0 _ 1 8 underlying70 j5 j9 j4 j3 rfl Oa (.slice none 0 0) 0 [] rfl (k0.alloc _) ⟨w9.1.size,0,none⟩ 1 1 [Qc a5] rfl rfl (World.news_of_block (cs:=#[Qc a5]) (t:=3) (fr:=(0,0)) (Qk w9 _)) (by simp[Value.oneCell']) Oa (by unfold maxLen;omega) Oa (by simp;omega) (w9.1.size+1) Od ?_;intro gx a9 b8 j1 h0 k8 k3;have q5:=(h0.frozen_far ⟨w.1.size+1,5,none⟩ (by simp;omega) z).t Z;have q6:=(h0.cell_far ⟨w.1.size+1,5,none⟩ (by simp;omega) z).t W)
     obtain⟨m,h9,y9⟩:=k9.o;obtain⟨o,D,G⟩:=m.kid h9 y9 rfl ⟨rfl,rfl⟩ (x:=a5) (w1:=w9.alloc (Qf #[Qc a5] 3)) ⟨rfl,rfl,rfl,Od⟩ (fun _ n=>On n) j1 h0 (k8.imp id (fun e=>by simpa using e));have o:Bx H O U gw a6 vI V9 w.1.size (w.1.size+1) {d:=14,at_:=(aE T st.i).e,s:=(aE T st.i).f,c:=[a5]} (Qe gx 1 a9,.slice none 0 0,.slice none 0 0) (b8.setCell ⟨w.1.size+1,5,none⟩ (Qe gx 1 a9)):=o;have D:PW H O U gw cw T s9 a6 vI V9 (b8.setCell ⟨w.1.size+1,5,none⟩ (Qe gx 1 a9)):=D;have G:Px O U Y a6 V V9 w (b8.setCell ⟨w.1.size+1,5,none⟩ (Qe gx 1 a9)):=G;clear m h9 y9 k9 k0 j1 h0 k8 k3 q5 q6 q W Z d6 z j5 j9 j4 j3;generalize b8.setCell ⟨w.1.size+1,5,none⟩ (Qe gx 1 a9)=f9 at*;go_wp2_with fail
     refine(yN tI D).mono ?_;rintro e b9 ⟨rfl,d8,c6⟩;have c9:=o.px (Px.i0 c6 (Y:=a6) (V:=V9));have e9:=G.t (Px.i0 c6);have g5:=d9.gr (Gr.h0 T tI s9) (Nat.le_of_lt d8.lt) Oa;clear o D G c6 d9;generalize cN T tI s9=e6 at*;go_wp2_with fail
     refine(rM mF d8).mono ?_;rintro e WT ⟨rfl,hT,e7⟩;obtain⟨v1,J⟩:∃ v1,Bx H O U gw a6 vI V9 w.1.size (w.1.size+1) {d:=14,at_:=(aE T st.i).e,s:=(aE T st.i).f,c:=[a5]} (v1,.slice none 0 0,.slice none 0 0) WT:=⟨_,c9.px (Px.i0 e7 (Y:=a6) (V:=V9))⟩;have yT:=e9.t (Px.i0 e7);have Q:=g5.gr (Gr.must T mF e6) (Nat.le_of_lt hT.lt) Oa;have j7:({d:=14,at_:=(aE T st.i).e,s:=(aE T st.i).f,c:=[a5]}:NQ).g=[]/\({d:=14,at_:=(aE T st.i).e,s:=(aE T st.i).f,c:=[a5]}:NQ).e=[]:=⟨rfl,rfl⟩;have d7:({d:=14,at_:=(aE T st.i).e,s:=(aE T st.i).f,c:=[a5]}:NQ).c.length<=2:=Od
     have P:=y0;clear c9 d8 e9 e7 g5 y0;generalize cO T mF e6=j at*;generalize ({d:=14,at_:=(aE T st.i).e,s:=(aE T st.i).f,c:=[a5]}:NQ)=g at*;obtain⟨ao,r,rfl,_⟩:=bP J.n.k;go_wp2_with fail
     refine(HE.o _ _ _ _ c Oa hT (nZ T j) Q.room).mono ?_;rintro e f ⟨rfl,A,p,i,R⟩;have b:=J.px R;have k:=yT.t R;have a3:=gE j;have j0:=Q.gr a3 (Nat.le_of_lt i.lt) Oa;have j6:Hid (jQ T E C B st=(cQ {g with c:=g.c++[(E j).2]} (cO T tH (E j).1),((E j).1.L.length:Int))):=P;clear J hT yT Q R P a3;generalize (E j).2=y at*;generalize (E j).1=F at*;obtain⟨i0,j5,y0,j4,j3⟩:=info_parts info3;have m:=b.old (w':=f.alloc (Qf #[Qc y] 3)) (fun _ n=>On n);obtain⟨⟨_,_,_,_,_,q⟩,_,_⟩:=b.cells;have q:f.cell? ⟨w.1.size+1,5,none⟩=some (.slice ao g.c.length r):=q;obtain⟨⟨_,_,_,_,_,W⟩,_,yf⟩:=m.cells;have Z:=yf 5;have d4:=i.t0;have k7:=b.lt;have k0:=b.n.k;have z:some (w.1.size+1)≠(Value.slice ao g.c.length r).ownBlock:=fun e=>b.ne (.l e.symm) rfl;have k9:Hid (Bx H O U gw A vI p w.1.size (w.1.size+1) g (.slice ao g.c.length r,.slice none 0 0,.slice none 0 0) f/\PW H O U gw cw T F A vI p f/\Px O U Y A V p w f):=⟨b,i,k⟩;clear yf b i k m;go_upto_region 17 with(at_builtin;refine wpList_append_lies _ rfl _ _ 70 rfl H 3 i0 _ 1 8 underlying70 j5 y0 j4 j3 rfl Oa (.slice ao g.c.length r) g.c.length (fQ g.c) rfl (k0.alloc _) ⟨f.1.size,0,none⟩ 1 1 [Qc y] rfl rfl (World.news_of_block (cs:=#[Qc y]) (t:=3) (fr:=(0,0)) (Qk f _)) (by simp[Value.oneCell']) Oa (by unfold maxLen;omega) Oa (by simp;omega) (f.1.size+1) Od ?_;intro gg c5 w9 h1 h0 k8 k3;have q5:=(h0.frozen_far ⟨w.1.size+1,5,none⟩ (by simp;omega) z).t Z;have q6:=(h0.cell_far ⟨w.1.size+1,5,none⟩ (by simp;omega) z).t W)
     obtain⟨b,i,k⟩:=k9.o;obtain⟨S,j2,a4⟩:=b.kid i k rfl j7 (x:=y) (w1:=f.alloc (Qf #[Qc y] 3)) ⟨rfl,rfl,rfl,Od⟩ (fun _ n=>On n) h1 h0 (k8.imp id (fun e=>by simpa using e));clear b i k k9 k0 h1 h0 k8 k3 q5 q6 q W Z k7 z;go_wp2_with fail
     refine(rM tH j2).mono ?_;rintro e c8 ⟨rfl,D,L⟩;have o:=S.px (Px.i0 L (Y:=A) (V:=p));have G:=a4.t (Px.i0 L);have k6:(cO T tH F).L.length<=200000:=by rw[fV];unfold fJ at j0;omega
     obtain⟨⟨z0,z1,z2,z3,z4,z5⟩,⟨z6,z7,z8,z9,a7⟩,zf⟩:=o.cells;clear S j2 a4 L;go_wp2_with fail
     refine(rX o D G k6).mono ?_;rintro e b9 ⟨rfl,N⟩;have HA:Hid _:=N;clear N o D G z0 z1 z2 z3 z4 z5 z6 z7 z8 z9 a7 zf;go_wp2;go_ret;rw[j6.o,fV];exact⟨rfl,HA.o⟩
 ·
   have u1:((aE T st.i).d==1)=false:=by simp[k1]
   have HZ:Hid (jQ T E C B st=(if qM T st stT=true then
    if(aE T st.i).f=aDC then lK T E {d:=12,at_:=(dC T 1 (aG T st)).e,s:=(dC T 1 (aG T st)).f} (cO T mF (cX T 1 (aG T st)))
    else if(aE T st.i).f=ifT then fB T C B {d:=0,at_:=(aE T st.i).e} true (aG T st)
    else if(aE T st.i).f=tE then fB T C B {d:=0,at_:=(aE T st.i).e} false (aG T st)
    else if(aE T st.i).f=qK then lK T E {d:=17,at_:=(aE T st.i).e} (aG T st)
    else lK T E {d:=18,at_:=(aE T st.i).e} (aG T st)
   else(dW T st,0))):=by
    unfold Hid jQ;dsimp only;rw[if_neg k1]
   clear k1;go_wp2_with fail
   refine(aJN stT Ob h2).mono ?_;rintro e w3 ⟨rfl,n3,rfl⟩;have h3:=h2.drewN n3;have y3:=y2.drewN n3;have q3:(W2.drewN n3).1[w.1.size]?=some (Qf #[Qc (aE T st.i).d,Qc (aE T st.i).e,.string (aE T st.i).f,Qc (aE T st.i).a] 220):=q2;have b3:Bx H O U gw Y vI V w.1.size (w.1.size+1) {d:=0,at_:=(aE T st.i).e} v0 (W2.drewN n3):=b2.old (fun _ _=>rfl);clear l0 l1 l2 l3 b2 h2 y2 q2;generalize W2.drewN n3=W3 at*;cases hany:qM T st stT
   ·
     have P:Hid (jQ T E C B st=(dW T st,0)):=by rw[Hid,HZ.o,hany];rfl
     clear HZ g6 hr b3 q3;go_wp2_with fail
     refine(xE h3).mono ?_;rintro e w4 ⟨rfl,h4,e4⟩;have y4:=y3.t (Px.i0 e4);clear h3 y3 e4;go_wp2;go_ret;rw[P.o];exact⟨rfl,Y,V,h4,y4⟩
   ·have g9:=aAJ hany
    have d3:Hid (jQ T E C B st=(if(aE T st.i).f=aDC then lK T E {d:=12,at_:=(dC T 1 (aG T st)).e,s:=(dC T 1 (aG T st)).f} (cO T mF (cX T 1 (aG T st)))
     else if(aE T st.i).f=ifT then fB T C B {d:=0,at_:=(aE T st.i).e} true (aG T st)
     else if(aE T st.i).f=tE then fB T C B {d:=0,at_:=(aE T st.i).e} false (aG T st)
     else if(aE T st.i).f=qK then lK T E {d:=17,at_:=(aE T st.i).e} (aG T st)
     else lK T E {d:=18,at_:=(aE T st.i).e} (aG T st))):=by rw[Hid,HZ.o,hany];rfl
    clear HZ hany;go_wp2_with fail
    refine(lG h3).mono ?_;rintro e w4 ⟨rfl,h4,e4⟩;have I:=b3.px (Px.i0 e4 (Y:=Y) (V:=V));have y4:=y3.t (Px.i0 e4);have q4:=(e4.block _ (Oo q3) Oa).t q3;have g4:=g6 g9 (Nat.le_of_lt h4.lt);clear b3 h3 y3 q3 e4 g6 hr g9;obtain⟨l0,l1,l2,l3,_⟩:=bK q4;generalize aG T st=s4 at*;generalize aE T st.i=t at*;unfold aU.g
    have y1:∀ (y:ByteArray) (l:List UInt8),y.data.toList=l->(t.f.toList==l)=decide (t.f=y):=fun y l hl=>by
     rw[<-hl,<-Lib.toList_data,uG]
    by_cases e1:t.f=aDC
    ·
      have f1:(t.f.toList==[108,101,116])=true:=(y1 aDC [108,101,116] rfl).t (decide_eq_true e1);have y0:Hid (jQ T E C B st=lK T E {d:=12,at_:=(dC T 1 s4).e,s:=(dC T 1 s4).f} (cO T mF (cX T 1 s4))):=by rw[Hid,d3.o,if_pos e1]
      clear d3 y1 e1;go_wp2_with fail
      refine(zG 1 h4).mono ?_;rintro e w5 ⟨rfl,h5,e5⟩;have b5:=I.px (Px.i0 e5 (Y:=Y) (V:=V));have y5:=y4.t (Px.i0 e5);have m0:=g4.gr (Gr.knd T 1 s4) (Nat.le_of_lt h5.lt) Oa;clear I h4 y4 q4 e5 l0 l1 l2 l3 g4;generalize cX T 1 s4=s5 at*;generalize dC T 1 s4=u at*;unfold aU.g;have b6:=b5.old (w':=w5.alloc (eS u)) (fun _ n=>On n);have h6:=h5.alloc (eS u);have y6:=y5.alloc (eS u);have q6:(w5.alloc (eS u)).1[w5.1.size]?=some (Qf #[Qc u.d,Qc u.e,.string u.f,Qc u.a] 220):=Qk w5 _;have g7:w5.1.size≠w.1.size+1:=by have:=b5.lt;omega
      clear b5 h5 y5;have b7:=b6.d 12;have h7:=h6.u0 b6.o 0 (Qc 12);have y7:=y6.j0 b6.m 0 (Qc 12);have q7:=(Below.heap_setCell (w5.alloc (eS u)) ⟨w.1.size+1,0,none⟩ (Qc 12) w5.1.size g7).t q6;have b:=b7.e u.e;have i:=h7.u0 b7.o 1 (Qc u.e);have k:=y7.j0 b7.m 1 (Qc u.e);have q8:=(Below.heap_setCell _ ⟨w.1.size+1,1,none⟩ (Qc u.e) w5.1.size g7).t q7;have m:=b.h u.f;have h9:=i.u0 b.o 2 (.string u.f);have y9:=k.j0 b.m 2 (.string u.f);obtain⟨⟨a0,_⟩,_,af⟩:=b6.cells;obtain⟨⟨_,a1,_⟩,_,ag⟩:=b7.cells;obtain⟨⟨_,_,a2,_⟩,_,ah⟩:=b.cells;obtain⟨_,m1,_,_⟩:=bK q7;obtain⟨_,_,m2,_⟩:=bK q8;have e3:=af 0;have f5:=ag 1;have f6:=ah 2;clear af ag ah b6 h6 y6 b7 h7 y7 b i k q6 q7 q8;go_wp2_with fail
      refine(rM mF h9).mono ?_;rintro e WT ⟨rfl,hT,e7⟩;obtain⟨v1,J⟩:∃ v1,Bx H O U gw Y vI V w.1.size (w.1.size+1) {d:=12,at_:=u.e,s:=u.f} (v1,.slice none 0 0,.slice none 0 0) WT:=⟨_,m.px (Px.i0 e7 (Y:=Y) (V:=V))⟩;have yT:=y9.t (Px.i0 e7);have Q:=m0.gr (Gr.must T mF s5) (Nat.le_of_lt hT.lt) Oa;have j7:({d:=12,at_:=u.e,s:=u.f}:NQ).g=[]/\({d:=12,at_:=u.e,s:=u.f}:NQ).e=[]:=⟨rfl,rfl⟩;have d7:({d:=12,at_:=u.e,s:=u.f}:NQ).c.length<=2:=Od
      have P:=y0;clear m h9 y9 e7 m0 y0 a0 a1 a2 m1 m2 e3 f5 f6 f1 g7;generalize cO T mF s5=j at*;generalize ({d:=12,at_:=u.e,s:=u.f}:NQ)=g at*;obtain⟨ao,r,rfl,_⟩:=bP J.n.k;go_wp2_with fail
      refine(HE.o _ _ _ _ c Oa hT (nZ T j) Q.room).mono ?_;rintro e f ⟨rfl,A,p,i,R⟩;have b:=J.px R;have k:=yT.t R;have a3:=gE j;have j0:=Q.gr a3 (Nat.le_of_lt i.lt) Oa;have j6:Hid (jQ T E C B st=(cQ {g with c:=g.c++[(E j).2]} (cO T tH (E j).1),((E j).1.L.length:Int))):=P;clear J hT yT Q R P a3;generalize (E j).2=y at*;generalize (E j).1=F at*;obtain⟨i0,j5,y0,j4,j3⟩:=info_parts info3;have m:=b.old (w':=f.alloc (Qf #[Qc y] 3)) (fun _ n=>On n);obtain⟨⟨_,_,_,_,_,q⟩,_,_⟩:=b.cells;have q:f.cell? ⟨w.1.size+1,5,none⟩=some (.slice ao g.c.length r):=q;obtain⟨⟨_,_,_,_,_,W⟩,_,yf⟩:=m.cells;have Z:=yf 5;have d4:=i.t0;have k7:=b.lt;have k0:=b.n.k;have z:some (w.1.size+1)≠(Value.slice ao g.c.length r).ownBlock:=fun e=>b.ne (.l e.symm) rfl;have k9:Hid (Bx H O U gw A vI p w.1.size (w.1.size+1) g (.slice ao g.c.length r,.slice none 0 0,.slice none 0 0) f/\PW H O U gw cw T F A vI p f/\Px O U Y A V p w f):=⟨b,i,k⟩;clear yf b i k m;go_upto_region 39 with(at_builtin;refine wpList_append_lies _ rfl _ _ 70 rfl H 3 i0 _ 1 8 underlying70 j5 y0 j4 j3 rfl Oa (.slice ao g.c.length r) g.c.length (fQ g.c) rfl (k0.alloc _) ⟨f.1.size,0,none⟩ 1 1 [Qc y] rfl rfl (World.news_of_block (cs:=#[Qc y]) (t:=3) (fr:=(0,0)) (Qk f _)) (by simp[Value.oneCell']) Oa (by unfold maxLen;omega) Oa (by simp;omega) (f.1.size+1) Od ?_;intro gg c5 w9 h1 h0 k8 k3;have q5:=(h0.frozen_far ⟨w.1.size+1,5,none⟩ (by simp;omega) z).t Z;have q6:=(h0.cell_far ⟨w.1.size+1,5,none⟩ (by simp;omega) z).t W)
      obtain⟨b,i,k⟩:=k9.o;obtain⟨S,j2,a4⟩:=b.kid i k rfl j7 (x:=y) (w1:=f.alloc (Qf #[Qc y] 3)) ⟨rfl,rfl,rfl,Od⟩ (fun _ n=>On n) h1 h0 (k8.imp id (fun e=>by simpa using e));clear b i k k9 k0 h1 h0 k8 k3 q5 q6 q W Z k7 z;go_wp2_with fail
      refine(rM tH j2).mono ?_;rintro e c8 ⟨rfl,D,L⟩;have o:=S.px (Px.i0 L (Y:=A) (V:=p));have G:=a4.t (Px.i0 L);have k6:(cO T tH F).L.length<=200000:=by rw[fV];unfold fJ at j0;omega
      obtain⟨⟨z0,z1,z2,z3,z4,z5⟩,⟨z6,z7,z8,z9,a7⟩,zf⟩:=o.cells;clear S j2 a4 L;go_wp2_with fail
      refine(rX o D G k6).mono ?_;rintro e b9 ⟨rfl,N⟩;have HA:Hid _:=N;clear N o D G z0 z1 z2 z3 z4 z5 z6 z7 z8 z9 a7 zf;go_wp2;go_ret;rw[j6.o,fV];exact⟨rfl,HA.o⟩
    have f1:(t.f.toList==[108,101,116])=false:=(y1 aDC [108,101,116] rfl).t (decide_eq_false e1)
    have j8:Hid (jQ T E C B st=(if t.f=ifT then fB T C B {d:=0,at_:=t.e} true s4
     else if t.f=tE then fB T C B {d:=0,at_:=t.e} false s4
     else if t.f=qK then lK T E {d:=17,at_:=t.e} s4
     else lK T E {d:=18,at_:=t.e} s4)):=by rw[Hid,d3.o,if_neg e1]
    clear d3 e1
    by_cases e2:t.f=ifT\/t.f=tE
    ·
      obtain⟨⟨z0,z1,z2,z3,z4,z5⟩,⟨z6,z7,z8,z9,a7⟩,zf⟩:=I.cells
      obtain⟨b4,f2,f3,P⟩:∃ b4,(t.f.toList==[105,102])=b4/\(b4=false->(t.f.toList==[119,104,105,108,101])=true)/\Hid (jQ T E C B st=fB T C B {d:=0,at_:=t.e} b4 s4):=by
       by_cases M:t.f=ifT
       ·exact⟨true,(y1 ifT [105,102] rfl).t (decide_eq_true M),(fun h=>by cases h),by rw[Hid,j8.o,if_pos M]⟩
       ·have e4:=e2.resolve_left M;exact⟨false,(y1 ifT [105,102] rfl).t (decide_eq_false M),fun _=>(y1 tE [119,104,105,108,101] rfl).t (decide_eq_true e4),by rw[Hid,j8.o,if_neg M,if_pos e4]⟩
      clear j8 y1 e2;cases b4
      all_goals
       first|(have f3:=f3 rfl)|skip
       go_wp2_with fail
       refine(aTY K hK C B gC gB a8 HC.o HB.o t.e t.f _ f2 c m3 h4 m4 g4).mono ?_;rintro e w5 ⟨rfl,f8,V5,h5,x5⟩;have y5:=y4.t x5;clear z0 z1 z2 z3 z4 z5 z6 z7 z8 z9 a7 zf I q4 l0 l1 l2 l3 h4 x5;go_wp2;go_ret;rw[P.o];exact⟨rfl,f8,V5,h5,y5⟩
    have g2:(t.f.toList==[105,102])=false:=(y1 ifT [105,102] rfl).t (decide_eq_false (fun h=>e2 (.l h)));have g3:(t.f.toList==[119,104,105,108,101])=false:=(y1 tE [119,104,105,108,101] rfl).t (decide_eq_false (fun h=>e2 (.r h)))
    obtain⟨kT,f4,P⟩:∃ kT:Int,((t.f.toList==[114,101,116,117,114,110])=true/\kT=17\/(t.f.toList==[114,101,116,117,114,110])=false/\kT=18)/\Hid (jQ T E C B st=lK T E {d:=kT,at_:=t.e} s4):=by
     by_cases M:t.f=qK
     ·exact⟨17,.l ⟨(y1 qK [114,101,116,117,114,110] rfl).t (decide_eq_true M),rfl⟩,by rw[Hid,j8.o,if_neg (fun h=>e2 (.l h)),if_neg (fun h=>e2 (.r h)),if_pos M]⟩
     ·exact⟨18,.r ⟨(y1 qK [114,101,116,117,114,110] rfl).t (decide_eq_false M),rfl⟩,by rw[Hid,j8.o,if_neg (fun h=>e2 (.l h)),if_neg (fun h=>e2 (.r h)),if_neg M]⟩
    obtain⟨v1,J⟩:∃ v1,Bx H O U gw Y vI V w.1.size (w.1.size+1) {d:=kT,at_:=t.e} (v1,.slice none 0 0,.slice none 0 0) (w4.setCell ⟨w.1.size+1,0,none⟩ (Qc kT)):=⟨_,I.d kT⟩;have hT:=h4.u0 I.o 0 (Qc kT);have yT:=y4.j0 I.m 0 (Qc kT);have Q:=g4;have j7:({d:=kT,at_:=t.e}:NQ).g=[]/\({d:=kT,at_:=t.e}:NQ).e=[]:=⟨rfl,rfl⟩;have d7:({d:=kT,at_:=t.e}:NQ).c.length<=2:=Od
    obtain⟨⟨a0,_⟩,_,af⟩:=I.cells;have e3:=af 0;clear j8 y1 e2 I h4 y4 q4 af g4;generalize s4=j at*;generalize ({d:=kT,at_:=t.e}:NQ)=g at*;rcases f4 with⟨f4,rfl⟩|⟨f4,rfl⟩
    all_goals
     obtain⟨ao,r,rfl,_⟩:=bP J.n.k;go_wp2_with fail
     refine(HE.o _ _ _ _ c Oa hT (nZ T j) Q.room).mono ?_;rintro e f ⟨rfl,A,p,i,R⟩;have b:=J.px R;have k:=yT.t R;have a3:=gE j;have j0:=Q.gr a3 (Nat.le_of_lt i.lt) Oa;have j6:Hid (jQ T E C B st=(cQ {g with c:=g.c++[(E j).2]} (cO T tH (E j).1),((E j).1.L.length:Int))):=P;clear J hT yT Q R P a3;generalize (E j).2=y at*;generalize (E j).1=F at*;obtain⟨i0,j5,y0,j4,j3⟩:=info_parts info3;have m:=b.old (w':=f.alloc (Qf #[Qc y] 3)) (fun _ n=>On n);obtain⟨⟨_,_,_,_,_,q⟩,_,_⟩:=b.cells;have q:f.cell? ⟨w.1.size+1,5,none⟩=some (.slice ao g.c.length r):=q;obtain⟨⟨_,_,_,_,_,W⟩,_,yf⟩:=m.cells;have Z:=yf 5;have d4:=i.t0;have k7:=b.lt;have k0:=b.n.k;have z:some (w.1.size+1)≠(Value.slice ao g.c.length r).ownBlock:=fun e=>b.ne (.l e.symm) rfl;have k9:Hid (Bx H O U gw A vI p w.1.size (w.1.size+1) g (.slice ao g.c.length r,.slice none 0 0,.slice none 0 0) f/\PW H O U gw cw T F A vI p f/\Px O U Y A V p w f):=⟨b,i,k⟩;clear yf b i k m;go_upto_region 39 with(at_builtin;refine wpList_append_lies _ rfl _ _ 70 rfl H 3 i0 _ 1 8 underlying70 j5 y0 j4 j3 rfl Oa (.slice ao g.c.length r) g.c.length (fQ g.c) rfl (k0.alloc _) ⟨f.1.size,0,none⟩ 1 1 [Qc y] rfl rfl (World.news_of_block (cs:=#[Qc y]) (t:=3) (fr:=(0,0)) (Qk f _)) (by simp[Value.oneCell']) Oa (by unfold maxLen;omega) Oa (by simp;omega) (f.1.size+1) Od ?_;intro gg c5 w9 h1 h0 k8 k3;have q5:=(h0.frozen_far ⟨w.1.size+1,5,none⟩ (by simp;omega) z).t Z;have q6:=(h0.cell_far ⟨w.1.size+1,5,none⟩ (by simp;omega) z).t W)
     obtain⟨b,i,k⟩:=k9.o;obtain⟨S,j2,a4⟩:=b.kid i k rfl j7 (x:=y) (w1:=f.alloc (Qf #[Qc y] 3)) ⟨rfl,rfl,rfl,Od⟩ (fun _ n=>On n) h1 h0 (k8.imp id (fun e=>by simpa using e));clear b i k k9 k0 h1 h0 k8 k3 q5 q6 q W Z k7 z;go_wp2_with fail
     refine(rM tH j2).mono ?_;rintro e c8 ⟨rfl,D,L⟩;have o:=S.px (Px.i0 L (Y:=A) (V:=p));have G:=a4.t (Px.i0 L);have k6:(cO T tH F).L.length<=200000:=by rw[fV];unfold fJ at j0;omega
     obtain⟨⟨z0,z1,z2,z3,z4,z5⟩,⟨z6,z7,z8,z9,a7⟩,zf⟩:=o.cells;clear S j2 a4 L;go_wp2_with fail
     refine(rX o D G k6).mono ?_;rintro e b9 ⟨rfl,N⟩;have HA:Hid _:=N;clear N o D G z0 z1 z2 z3 z4 z5 z6 z7 z8 z9 a7 zf;go_wp2;go_ret;rw[j6.o,fV];exact⟨rfl,HA.o⟩
end
section
variable {H O U gw cw X:Nat} {T:List aU} {st:QS} {Y vI:Value} {V:List V3} {w:World} {a:NQ} {v:V3}
theorem aLU:∀ N,mC 40000 H O U gw cw T vI 171 #[Qd O] (qBl T (qE T) (qC T) (N+1)) N:=by
 intro N
 induction N with
 |zero=>exact aNJ 40000 _ (uH (aDJ T) (aL9 T) (zT (aDJ T) (aL9 T) 0)) 0 (fun st Y V w c _ _ _ b=>Oa) Ol
 |succ N ih=>exact aNJ 40000 _ (uH (aDJ T) (aL9 T) (zT (aDJ T) (aL9 T) (N+1))) (N+1) (aXM 40000 Ol (qE T) (qC T) _ (aDJ T) (aL9 T) (zT (aDJ T) (aL9 T) (N+1)) N aFW aPP ih) Ol
theorem aPW:mC 40000 H O U gw cw T vI 171 #[Qd O] (qB T) T.length:=aLU T.length
theorem Bx.par{w0:World}(h:Bx H O U gw Y vI V w0.1.size X a v w)(o:PW H O U gw cw T st Y vI V w){i:Value}{c:List V3}(p:Px O U i Y c V w0 w)(d:v.1= .slice none 0 0)(e:v.2.2= .slice none 0 0)(f:a.c=[]/\a.e=[]){t:aU}{w1 w2:World}{g J:Nat}(m:w1.os=w.os/\w1.tape=w.tape/\w1.output=w.output/\w.1.size<=w1.1.size)(l:∀ k,k < w.1.size->w1.1[k]?=w.1[k]?)(h0:w2.ownsRow H 220 4 (Qe g (a.g.length+1) J) (a.g.length+1) (dD a.g++t.cells))(n:w1.grownBy w2 v.2.1.ownBlock)(j:v.2.1.ownBlock=some g\/g=w1.1.size):
 Bx H O U gw Y vI V w0.1.size X {a with g:=a.g++[t]} (.slice none 0 0,Qe g (a.g.length+1) J,.slice none 0 0) (w2.setCell ⟨X,6,none⟩ (Qe g (a.g.length+1) J))/\PW H O U gw cw T st Y vI V (w2.setCell ⟨X,6,none⟩ (Qe g (a.g.length+1) J))/\Px O U i Y c V w0 (w2.setCell ⟨X,6,none⟩ (Qe g (a.g.length+1) J)):=by
 obtain⟨q,r,s⟩:=v;dsimp only at d e;subst d e;refine h.grow o p (fun k b=> .r (.l b)) rfl (fun k b=>?_) m l n j ⟨?_,?_,?_⟩
 ·rcases b with b|b|b
  ·cases b
  ·exact .r (by simpa[Value.ownBlock]using b.symm)
  ·cases b
 ·rw[f.1];exact⟨rfl,.l ⟨rfl,rfl⟩⟩
 ·show w2.ownsRow H 220 4 _ (a.g++[t]).length (dD (a.g++[t]));rw[List.length_append,uZ];exact h0
 ·rw[f.2];exact⟨rfl,.l ⟨rfl,rfl⟩⟩
theorem Bx.whe{w0:World}(h:Bx H O U gw Y vI V w0.1.size X a v w)(q:PW H O U gw cw T st Y vI V w){l:Value}{d:List V3}(r:Px O U l Y d V w0 w)(f:v.1= .slice none 0 0)(o:a.c=[]){x:Int}{w1 w2:World}{g J:Nat}(p:w1.os=w.os/\w1.tape=w.tape/\w1.output=w.output/\w.1.size<=w1.1.size)(j:∀ k,k < w.1.size->w1.1[k]?=w.1[k]?)(h0:w2.ownsRow H 3 1 (Qe g (a.e.length+1) J) (a.e.length+1) (fQ a.e++[Qc x]))(c:w1.grownBy w2 v.2.2.ownBlock)(i:v.2.2.ownBlock=some g\/g=w1.1.size):
 Bx H O U gw Y vI V w0.1.size X {a with e:=a.e++[x]} (.slice none 0 0,v.2.1,Qe g (a.e.length+1) J) (w2.setCell ⟨X,7,none⟩ (Qe g (a.e.length+1) J))/\PW H O U gw cw T st Y vI V (w2.setCell ⟨X,7,none⟩ (Qe g (a.e.length+1) J))/\Px O U l Y d V w0 (w2.setCell ⟨X,7,none⟩ (Qe g (a.e.length+1) J)):=by
 obtain⟨s,t,u⟩:=v;dsimp only at f c i;subst f;refine h.grow q r (fun k b=> .r (.r b)) rfl (fun k b=>?_) p j c i ⟨?_,?_,?_⟩
 ·rcases b with b|b|b
  ·cases b
  ·exact .l (.r (.l b))
  ·exact .r (by simpa[Value.ownBlock]using b.symm)
 ·rw[o];exact⟨rfl,.l ⟨rfl,rfl⟩⟩
 ·exact aR h.n.p (fun k b=>by
   have m:=fC h.n.p b;refine(c.block k Oa (fun e=>?_)).t (j k m);obtain⟨⟨c1,n⟩,_⟩:=aW h.n.p b;exact cV h.n.h n Ob e.symm)
 ·show w2.ownsRow H 3 1 _ (a.e++[x]).length (fQ (a.e++[x]));simpa[fQ]using h0
theorem Bx.body{w0:World}(h:Bx H O U gw Y vI V w0.1.size X a v w)(d:PW H O U gw cw T st Y vI V w){j:Value}{f:List V3}(i:Px O U j Y f V w0 w)(x:Int):
 Bx H O U gw Y vI V w0.1.size X {a with c:=[x]} (Qe w.1.size 1 1,v.2) ((w.alloc (Qf #[Qc x] 3)).setCell ⟨X,5,none⟩ (Qe w.1.size 1 1)):=by
 have l:=h.lt;have cP:=i.size;have h0:=h.old (w':=w.alloc (Qf #[Qc x] 3)) (fun _ b=>On b);have g:w.1.size≠X:=Oa
 refine⟨aI _ h0.c,h.o,h.m,⟨?_,?_,?_⟩,fun k b=>?_⟩
 ·exact⟨rfl,.r ⟨w.1.size,1,#[Qc x],rfl,d.t0,(Om g).t (Qk w _),Ql _,Ob,rfl,rfl⟩⟩
 ·exact aR h0.n.p (fun k b=>Om (h0.ne (.r (.l b))))
 ·exact aR h0.n.h (fun k b=>Om (h0.ne (.r (.r b))))
 ·rcases b with b|b|b
  ·have e:w.1.size=k:=by simpa[Value.ownBlock]using b
   exact⟨d.fresh Oa,Oa⟩
  ·exact h.u k (.r (.l b))
  ·exact h.u k (.r (.r b))
theorem aAM:∀ (L:List NQ) (V:List V3) (i:Nat) (a:NQ) (v:V3),L[i]?=some a->V[i]?=some v->∀ j,j < 11->(mM L V)[i*11+j]?=(NdV a v)[j]?
 |b::L,u::V,0,a,v,h1,h2,j,hj=>by
  simp only[List.getElem?_cons_zero,Option.some.injEq]at h1 h2;subst h1 h2;show(NdV b u++mM L V)[0*11+j]?=_;rw[Nat.zero_mul,Nat.zero_add,List.getElem?_append_left (by simp only[NdV,List.length_cons,List.length_nil];omega)]
 |b::L,u::V,i+1,a,v,h1,h2,j,hj=>by
  show(NdV b u++mM L V)[(i+1)*11+j]?=_;have e:(NdV b u).length=11:=rfl;rw[List.getElem?_append_right (by rw[e];omega),e,show(i+1)*11+j - 11=i*11+j by omega];exact aAM L V i a v (by simpa using h1) (by simpa using h2) j hj
theorem kZ.get{H:Nat}{w:World}:∀ {L:List NQ} {V:List V3} {i:Nat} {a:NQ},kZ H w L V->L[i]?=some a->∃ v,V[i]?=some v/\uA H w a v
 |b::L,u::V,0,a,h,h1=>by
  simp only[List.getElem?_cons_zero,Option.some.injEq]at h1;subst h1;exact⟨u,rfl,h.1⟩
 |b::L,u::V,i+1,a,h,h1=>by
  obtain⟨v,c,d⟩:=kZ.get (i:=i) h.2 (by simpa using h1);exact⟨v,by simpa using c,d⟩
theorem PW.node(h:PW H O U gw cw T st Y vI V w){i:Nat}{a:NQ}(hi:st.L[i]?=some a):∃ g J v,Y= Qe g st.L.length J/\V[i]?=some v/\uA H w a v/\∀ j,j < 11->w.cell? ⟨g,i*11+j,none⟩=(NdV a v)[j]?:=by
 obtain⟨v,c,m⟩:=h.c.get hi;have o:=(List.getElem?_eq_some_iff.1 hi).1;obtain⟨_,l⟩:=h.nodes;rcases l with⟨_,k⟩|⟨g,J,n,h0,_,e,_,_,_,d⟩
 ·have:st.L.length=0:=k;omega
 ·refine⟨g,J,v,h0,c,m,fun j f=>?_⟩;have b:=aAM st.L V i a v hi c j f;rw[<-d,List.getElem?_take,if_pos Oa]at b;rw[cell_of_row _ _ _ _ _ _ e,<-b];simp
theorem aWE(T:List aU)(st:QS):∃ x,(jH T st).L=st.L++[x]/\x.at_=(aE T st.i).e:=by
 have key:∀ (x:NQ) (s:QS),s.L=st.L->(cQ x s).L=st.L++[{x with f:=-1}]:=fun x s h=>by rw[<-h];rfl
 unfold jH
 split
 ·exact⟨_,key _ _ (by rw[kP,aV]),rfl⟩
 split
 ·exact⟨_,key _ _ aV,rfl⟩
 ·exact⟨_,key _ _ (kP 1),rfl⟩
end
section
variable {H O U gw cw:Nat} {T:List aU} {vI:Value}
theorem infoW:(prog.info? 220).map (fun i=>(i.zero,i.size,i.bytes))=some (some (.agg #[Qc 0,Qc 0,.string (ByteArray.mk #[]),Qc 0]),4,40):=by kernel_rfl
theorem aS6{T:List aU}:∀ (k:Nat) (b:Bool) (l:List aU) (st:QS),(dJ T k b l st).1.L=st.L:=by
 intro k
 induction k with
 |zero=>exact fun _ _ _=>rfl
 |succ k ih=>
  grind[dJ,aV,kP]
theorem aYE{T:List aU}{st:QS}{k:Int}(c:k≠0)(h:(cX T k st).a=0):st.a=0/\(cX T k st).i=st.i+1:=by
 have b:st.a=0:=by
  by_cases b:st.a=0
  ·exact b
  ·exact absurd (((Gr.knd T k st).stick b).1 ▸ h) b
 grind[cX,aE,dW,jX]
theorem aLD(K:Nat)(hK:K<=40000)(B:QS->QS × Int)(gB:oG B)(hB:mC K H O U gw cw T vI 171 #[Qd O] B T.length)(st:QS)(Y:Value)(V:List V3)(w:World)(c:Nat)(o2:c<=K)(h:PW H O U gw cw T st Y vI V w)(hr:fJ T st c 8):
 Calls prog 107 #[Qd O] w fun e w'=>e= .returned (Qc (pN T B st).2)/\Aft H O U gw cw T vI Y V w (pN T B st).1 w':=by
 have HB:Hid (mC K H O U gw cw T vI 171 #[Qd O] B T.length):=hB
 have HQ:∀ i,i=aO T cR (cX T 1 st)->Hid (pN T B st=(cQ {d:=2,at_:=(dC T 1 st).e,s:=(dC T 1 st).f,g:=(dJ T T.length (!dF T i fR) [] i).2,e:=(eF T T.length (dF T (cN T fR (dJ T T.length (!dF T i fR) [] i).1) mY) [] (cN T fR (dJ T T.length (!dF T i fR) [] i).1)).2,c:=[(B (eF T T.length (dF T (cN T fR (dJ T T.length (!dF T i fR) [] i).1) mY) [] (cN T fR (dJ T T.length (!dF T i fR) [] i).1)).1).2]} (B (eF T T.length (dF T (cN T fR (dJ T T.length (!dF T i fR) [] i).1) mY) [] (cN T fR (dJ T T.length (!dF T i fR) [] i).1)).1).1,((B (eF T T.length (dF T (cN T fR (dJ T T.length (!dF T i fR) [] i).1) mY) [] (cN T fR (dJ T T.length (!dF T i fR) [] i).1)).1).1.L.length:Int))):=fun i h=>by
  subst h;rfl
 clear hB;go_enter func107,ntmps107
 go_wp2_with fail
 refine(zG 1 h).mono ?_;rintro e w1 ⟨rfl,h1,e1⟩;have x1:=Px.i0 e1 (Y:=Y) (V:=V) (U:=U);have m9:=hr.gr (Gr.knd T 1 st) (Nat.le_of_lt h1.lt) Oa;clear h hr e1;generalize cX T 1 st=i at*;generalize dC T 1 st=t at*;have i3:=HQ _ rfl;clear HQ;unfold aU.g;have h2:=h1.alloc (eS t);have x2:=x1.alloc (eS t);have b3:=h2.boxed x2 {d:=2,at_:=t.e,s:=t.f} ⟨rfl,rfl,rfl,rfl,rfl,rfl,rfl,rfl⟩;have h3:=h2.alloc (tS {d:=2,at_:=t.e,s:=t.f});have x3:=x2.alloc (tS {d:=2,at_:=t.e,s:=t.f});have e2:(w1.alloc (eS t)).1.size=w1.1.size+1:=Od
 rw[e2]at b3;clear h1 x1 h2 x2 e2;go_wp2_with fail
 refine(yU cR h3).mono ?_;rintro e w4 ⟨rfl,h4,e4⟩;have b4:=b3.px (Px.i0 e4 (Y:=Y) (V:=V));have x4:=x3.t (Px.i0 e4);have m8:=m9.gr (Gr.opn T cR i) (Nat.le_of_lt h4.lt) Oa;clear b3 h3 x3 e4 m9;generalize aO T cR i=L at*;generalize w1.1.size+1=X at*;go_wp2_with fail
 refine(pG fR h4).mono ?_;rintro e w5 ⟨rfl,n5,rfl⟩;have b5:Bx H O U gw Y vI V w.1.size X {d:=2,at_:=t.e,s:=t.f} v0 (w4.drewN n5):=b4.old (fun _ _=>rfl);have h5:=h4.drewN n5;have x5:=x4.drewN n5;clear b4 h4 x4;generalize w4.drewN n5=W5 at*;obtain⟨i0,l4,m2,m1,m0⟩:=info_parts infoW;go_wp2_with fail
 go_loopg [6] T.length (fun m v6 wr=>∃ (C:QS) (more:Bool) (l:List aU) (n v2:Value) (k:List V3),v6= .bool more/\PW H O U gw cw T C n vI k wr/\Px O U Y n V k w wr/\Bx H O U gw n vI k w.1.size X {d:=2,at_:=t.e,s:=t.f,g:=l} (.slice none 0 0,v2,.slice none 0 0) wr/\l.length+m<=T.length/\(more=true->bZ T C<=m)/\fJ T C c 8/\dJ T m more l C=dJ T T.length (!dF T L fR) [] L)
 case atStart=>exact⟨L,_,[],Y,_,V,rfl,h5,x5,b5,Od,fun _=>nZ T L,m8,rfl⟩
 case round=>
  obtain⟨C,more,l,n,v2,k,rfl,z,R,N,d1,q,I,k1⟩:=hrel;have M:Hid (dJ T gk more l C=dJ T T.length (!dF T L fR) [] L):=k1;obtain⟨_,_,_,p3,_,_,_⟩:=z.cells;clear k1 b5 h5 x5 m8
  by_cases Q:more=true/\C.a=0
  ·obtain⟨rfl,D⟩:=Q;have q:=q rfl
   obtain⟨m,rfl⟩:∃ m,gk=m+1:=⟨gk - 1,by
    unfold bZ at q;rw[if_pos D]at q;have:=z.lt;omega⟩
   have t0:(C.a==0)=true:=by simp[D]
   have HS:Hid (dJ T m (dF T (cX T 1 C) xY) (l++[dC T 1 C]) (if dF T (cX T 1 C) xY=true then aG T (cX T 1 C)else cX T 1 C)=dJ T T.length (!dF T L fR) [] L):=by
    rw[Hid,<-M.o,dJ,if_pos (c:=true=true/\C.a=0) ⟨rfl,D⟩]
   have o6:bZ T (cX T 1 C)<=m:=by
    unfold bZ at q ⊢;rw[if_pos D]at q
    split
    ·rename_i h0;rw[(aYE Ob h0).2];omega
    ·exact Qn _
   clear M q;go_wp2_with fail
   refine(zG 1 z).mono ?_;rintro e y ⟨rfl,h8,e8⟩;have b8:=N.px (Px.i0 e8 (Y:=n) (V:=k));have y8:=R.t (Px.i0 e8);have m7:=I.gr (Gr.knd T 1 C) (Nat.le_of_lt h8.lt) Oa;clear N R z e8 p3 t0 D I;generalize dC T 1 C=u at*;generalize cX T 1 C=s8 at*;unfold aU.g;have G:=b8.old (w':=y.alloc (eS u)) (fun _ b=>On b);have h9:=h8.alloc (eS u);have y9:=y8.alloc (eS u);have q9:(y.alloc (eS u)).1[y.1.size]?=some (Qf #[Qc u.d,Qc u.e,.string u.f,Qc u.a] 220):=Qk y _;have s9:(y.alloc (eS u)).1.size=y.1.size+1:=Od
   clear b8 h8 y8;obtain⟨⟨_,_,_,_,_,_⟩,⟨c6,_⟩,_⟩:=G.cells;have c6:(y.alloc (eS u)).cell? ⟨X,6,none⟩=some v2:=c6;have a4:=G.old (w':=(y.alloc (eS u)).alloc (eS u)) (fun _ b=>On b);obtain⟨_,⟨d6,_⟩,yf⟩:=a4.cells;have f6:=yf 6;have r2:=h9.t0;have d0:=G.lt;have d4:=h9.few;have k0:=G.n.p;obtain⟨ao,cp,rfl,_⟩:=bP k0;have g8:some X≠(Value.slice ao l.length cp).ownBlock:=fun e=>G.ne (.r (.l e.symm)) rfl;obtain⟨l0,l1,j,l3,_⟩:=bK q9;have g2:Hid (Bx H O U gw n vI k w.1.size X {d:=2,at_:=t.e,s:=t.f,g:=l} (.slice none 0 0,.slice ao l.length cp,.slice none 0 0) (y.alloc (eS u))/\PW H O U gw cw T s8 n vI k (y.alloc (eS u))/\Px O U Y n V k w (y.alloc (eS u))):=⟨G,h9,y9⟩;clear yf G h9 y9 a4 q9;go_upto_region 9 with(at_builtin;refine wpList_append_lies _ rfl _ _ 71 rfl H 220 i0 _ 4 40 underlying71 l4 m2 m1 m0 rfl Oa (.slice ao l.length cp) l.length (dD l) rfl (k0.alloc _) ⟨y.1.size+1,0,none⟩ 1 1 [Qc u.d,Qc u.e,.string u.f,Qc u.a] rfl rfl (World.news_of_block (cs:=#[Qc u.d,Qc u.e,.string u.f,Qc u.a]) (t:=220) (fr:=(0,0)) (by rw[<-s9];exact Qk _ _)) (by simp[Value.oneCell']) Oa (by unfold maxLen;omega) Oa (by simp;omega) (y.1.size+1+1) Od ?_;intro gg b6 f2 k3 P g1 y3;have q5:=(P.frozen_far ⟨X,6,none⟩ (by simp;omega) g8).t f6;have q6:=(P.cell_far ⟨X,6,none⟩ (by simp;omega) g8).t d6)
   obtain⟨G,h9,y9⟩:=g2.o;obtain⟨a5,y4,a8⟩:=G.par h9 y9 rfl rfl ⟨rfl,rfl⟩ (t:=u) (w1:=(y.alloc (eS u)).alloc (eS u)) ⟨rfl,rfl,rfl,Od⟩ (fun _ b=>On b) k3 P (g1.imp id (fun e=>by simpa using e));clear G h9 y9 g2 k0 k3 P g1 y3 q5 q6 c6 d6 f6 d0 g8 l0 l1 j l3 s9;go_wp2_with fail
   refine(pG xY y4).mono ?_;rintro e p8 ⟨rfl,c8,rfl⟩;have a7:Bx H O U gw n vI k w.1.size X {d:=2,at_:=t.e,s:=t.f,g:=l++[u]} (.slice none 0 0,Qe gg (l.length+1) b6,.slice none 0 0) ((f2.setCell ⟨X,6,none⟩ (Qe gg (l.length+1) b6)).drewN c8):=a5.old (fun _ _=>rfl);have y6:=y4.drewN c8;have a9:=a8.drewN c8;clear a5 y4 a8;generalize (f2.setCell ⟨X,6,none⟩ (Qe gg (l.length+1) b6)).drewN c8=q8 at*;cases hcm:dF T s8 xY
   ·go_wp2;go_roundg m
    case rel=>
     refine⟨s8,false,l++[u],_,_,_,rfl,y6,a9,a7,by simp;omega,(fun h=>by cases h),m7,?_⟩;have:=HS.o;rw[hcm]at this;exact this
    case measure=>omega
   ·go_wp2_with fail
    refine(lG y6).mono ?_;rintro e p9 ⟨rfl,y5,a2⟩;unfold aU.g;go_wp2;go_roundg m
    case rel=>
     refine⟨aG T s8,true,l++[u],_,_,_,rfl,y5,a9.t (Px.i0 a2),a7.px (Px.i0 a2 (Y:=n) (V:=k)),by simp;omega,fun _=>Qm ((Gr.bz T s8).need (T:=T)) o6,m7.gr (Gr.bz T s8) (Nat.le_of_lt y5.lt) Oa,?_⟩;have:=HS.o;rw[hcm]at this;exact this
    case measure=>omega
  ·have HF:Hid (dJ T gk more l C=(C,l)):=by
    cases gk
    ·rfl
    ·exact if_neg Q
   have o4:more=false\/(more=true/\(C.a==0)=false):=by
    cases more
    ·exact .l rfl
    ·exact .r ⟨rfl,by simpa using fun e=>Q ⟨rfl,e⟩⟩
   have i4:Hid (pN T B st=(cQ {d:=2,at_:=t.e,s:=t.f,g:=l,e:=(eF T T.length (dF T (cN T fR C) mY) [] (cN T fR C)).2,c:=[(B (eF T T.length (dF T (cN T fR C) mY) [] (cN T fR C)).1).2]} (B (eF T T.length (dF T (cN T fR C) mY) [] (cN T fR C)).1).1,((B (eF T T.length (dF T (cN T fR C) mY) [] (cN T fR C)).1).1.L.length:Int))):=by
    have e1:dJ T T.length (!dF T L fR) [] L=(C,l):=M.o.symm.t HF.o;have:=i3.o;rw[e1]at this;exact this
   clear Q q M HF i3 d1 l4 m2 m1 m0;obtain⟨j0,o5,o9,p1,p2⟩:=info_parts info3;rcases o4 with rfl|⟨rfl,t0⟩
   all_goals
    go_wp2_with fail
    refine(yN fR z).mono ?_;rintro e l7 ⟨rfl,g5,e6⟩;have a4:=N.px (Px.i0 e6 (Y:=n) (V:=k));have l8:=R.t (Px.i0 e6);have j3:=I.gr (Gr.h0 T fR C) (Nat.le_of_lt g5.lt) Oa;clear N R e6 z I p3;generalize cN T fR C=J at*;go_wp2_with fail
    refine(pG mY g5).mono ?_;rintro e f2 ⟨rfl,c5,rfl⟩;have i6:Bx H O U gw n vI k w.1.size X {d:=2,at_:=t.e,s:=t.f,g:=l} (.slice none 0 0,v2,.slice none 0 0) (l7.drewN c5):=a4.old (fun _ _=>rfl);have k4:=g5.drewN c5;have l9:=l8.drewN c5;clear a4 g5 l8;generalize l7.drewN c5=q7 at*;go_wp2_with fail
    go_loopg [8] T.length (fun m v8 wr=>∃ (C:QS) (more:Bool) (j:List Int) (n v3:Value) (k:List V3),v8= .bool more/\PW H O U gw cw T C n vI k wr/\Px O U Y n V k w wr/\Bx H O U gw n vI k w.1.size X {d:=2,at_:=t.e,s:=t.f,g:=l,e:=j} (.slice none 0 0,v2,v3) wr/\j.length+m<=T.length/\bZ T C<=m/\(more=true->(aE T C.i).d≠0)/\fJ T C c 8/\eF T m more j C=eF T T.length (dF T J mY) [] J)
    case atStart=>exact⟨J,_,[],_,_,_,rfl,k4,l9,i6,Od,nZ T J,fun h=>pK h,j3,rfl⟩
    case round=>
     clear i6 k4 l9 j3;obtain⟨C,more,j,n,v3,k,rfl,z,R,N,d1,q,d3,I,k1⟩:=hrel;have M:Hid (eF T gk more j C=eF T T.length (dF T J mY) [] J):=k1;obtain⟨_,_,_,p3,_,_,_⟩:=z.cells;clear k1
     by_cases Q:more=true/\C.a=0
     ·obtain⟨rfl,D⟩:=Q;have d2:(aE T C.i).d≠0:=by exact d3 Qj
      clear d3
      obtain⟨m,rfl⟩:∃ m,gk=m+1:=⟨gk - 1,by
       unfold bZ at q;rw[if_pos D]at q;have:=z.lt;omega⟩
      have t0:(C.a==0)=true:=by simp[D]
      have HS:Hid (eF T m (dF T (gT T (aG T C)).1 xY) (j++[(gT T (aG T C)).2]) (gT T (aG T C)).1=eF T T.length (dF T J mY) [] J):=by
       rw[Hid,<-M.o,eF,if_pos (c:=true=true/\C.a=0) ⟨rfl,D⟩]
      have l5:bZ T (aG T C)<=m:=by
       unfold bZ at q ⊢;rw[if_pos D]at q
       split
       ·rw[jX T C d2];omega
       ·exact Qn _
      have o7:bZ T (gT T (aG T C)).1<=m:=Qm ((Gr.where_ T (aG T C)).need (T:=T)) l5;clear M q l5;go_wp2_with fail
      refine(lG z).mono ?_;rintro e r5 ⟨rfl,y4,e7⟩;unfold aU.g;have a5:=N.px (Px.i0 e7 (Y:=n) (V:=k));have a8:=R.t (Px.i0 e7)
      have y1:fJ T (aG T C) c 16:=by
       unfold fJ at I ⊢;have:=y4.lt;rw[jX T C d2]at this ⊢;rw[aV];omega
      have HW:Hid (gT T (aG T C)=(cQ {d:=9,at_:=(aE T (aG T C).i).e,s:=rE T (jH T (aG T C)),c:=[((aG T C).L.length:Int),((kO T (jH T (aG T C))).L.length:Int)]} (jH T (kO T (jH T (aG T C)))),((jH T (kO T (jH T (aG T C)))).L.length:Int))):=rfl;clear N R z e7 p3 t0 D I d2;generalize aG T C=f at*;have y2:f.L.length<=200000:=by unfold fJ at y1;omega
      obtain⟨x0,m4,m3⟩:=aWE T f;go_wp2_with fail
      refine(aU1 y4 y2).mono ?_;rintro e p8 ⟨rfl,p6,n6,y6,f5⟩;have a7:=a5.px f5;have a9:=a8.t f5;have j2:=y1.gr (Gr.atom T f) (Nat.le_of_lt y6.lt) Oa;clear a5 y4 a8 f5 y1;generalize jH T f=a3 at*;go_wp2_with fail
      refine(aAG y6).mono ?_;rintro e p9 ⟨rfl,y5,a2⟩;have i7:=a7.px (Px.i0 a2 (Y:=p6) (V:=n6));have n1:=a9.t (Px.i0 a2);have y0:=j2.gr (Gr.comp T a3) (Nat.le_of_lt y5.lt) Oa;have j5:=(Gr.comp T a3).pre;have j7:(kO T a3).L.length<=200000:=by unfold fJ at y0;omega
      clear a7 y6 a9 a2 j2;generalize rE T a3=o at*;generalize kO T a3=r at*;have j4:=(Gr.atom T r).pre;go_wp2_with fail
      refine(aU1 y5 j7).mono ?_;rintro e p ⟨rfl,p7,a6,W,f8⟩;have b7:=i7.px f8;have h7:=n1.t f8;have k9:=y0.gr (Gr.atom T r) (Nat.le_of_lt W.lt) Oa;clear i7 y5 n1 f8 y0 j7;generalize jH T r=E at*
      have k8:E.L[f.L.length]?=some x0:=by
       have h1:a3.L[f.L.length]?=some x0:=by rw[m4];simp
       obtain⟨q2,hM⟩:=j5.t j4;rw[<-hM,List.getElem?_append_left (List.getElem?_eq_some_iff.1 h1).1];exact h1
      obtain⟨gr,n9,vx,m6,_,_,k5⟩:=W.node k8;have i1:p.cell? ⟨gr,f.L.length*11+1,none⟩=some (Qc x0.at_):=k5 1 Oa;obtain⟨_,_,_,_,_,p5,_⟩:=W.cells;have g0:p.cell? ⟨U,0,none⟩=some (Qe gr E.L.length n9):=by rw[cell_of_row _ _ _ _ _ _ W.prog,<-m6];rfl
      have j9:0<=(f.L.length:Int)/\(f.L.length:Int) < (E.L.length:Int):=by have:=(List.getElem?_eq_some_iff.1 k8).1;omega
      have k6:=W.alloc (Qf #[Qc f.L.length,Qc r.L.length] 3);have n2:=h7.alloc (Qf #[Qc f.L.length,Qc r.L.length] 3);have n7:=b7.old (w':=p.alloc (Qf #[Qc f.L.length,Qc r.L.length] 3)) (fun _ b=>On b);have hv:uA H (p.alloc (Qf #[Qc f.L.length,Qc r.L.length] 3)) {d:=9,at_:=x0.at_,s:=o,c:=[(f.L.length:Int),(r.L.length:Int)]} (Qe p.1.size 2 2,.slice none 0 0,.slice none 0 0):=⟨wP _ W.t0 _ _,⟨rfl,.l ⟨rfl,rfl⟩⟩,⟨rfl,.l ⟨rfl,rfl⟩⟩⟩
      have g3:∀ A,iX (Qe p.1.size 2 2,.slice none 0 0,.slice none 0 0) A->A=p.1.size:=by
       rintro A (b|b|b)<;>simp[Value.ownBlock]at b;exact b.symm
      have m5:∀ A,vI.ownBlock=some A->¬iX (Qe p.1.size 2 2,.slice none 0 0,.slice none 0 0) A:=fun A b hu=>absurd (fC W.its b) (by rw[g3 A hu];omega);have j6:E.L.length<=200000:=by unfold fJ at k9;omega
      have y7:w.1.size<=p.1.size:=h7.size;have o3:f.L.length<=200000:=y2;have i5:Hid (x0.at_=(aE T f.i).e):=m3;clear W h7 k5 k8 j5 j4 y2 n7 m4 m3;go_wp2_with fail
      refine(tZ {d:=9,at_:=x0.at_,s:=o,c:=[(f.L.length:Int),(r.L.length:Int)]} _ k6 hv m5 j6).mono ?_;rintro e Z ⟨rfl,e9,S,f9⟩;have F:=b7.px ((((Px.refl O U p7 a6 p).alloc (Qf #[Qc f.L.length,Qc r.L.length] 3)).t f9).more (v:=(Qe p.1.size 2 2,.slice none 0 0,.slice none 0 0)) (fun A b=>by rw[g3 A b];exact Ql _));have b2:=(n2.t f9).more (v:=(Qe p.1.size 2 2,.slice none 0 0,.slice none 0 0)) (fun A b=>by rw[g3 A b];exact y7);have o8:X < p.1.size:=b7.lt;clear b7 k6 n2 f9 hv m5 i1 g0 p5 m6;obtain⟨_,⟨_,c7,_⟩,_⟩:=F.cells;have i8:=F.old (w':=Z.alloc (Qf #[Qc E.L.length] 3)) (fun _ b=>On b);obtain⟨_,⟨_,d7,_⟩,yf⟩:=i8.cells;have f7:=yf 7;have r1:=S.t0;have j8:=F.lt;have d4:=S.few;have k0:=F.n.h;obtain⟨ao,cp,rfl,_⟩:=bP k0;have g7:some X≠(Value.slice ao j.length cp).ownBlock:=fun e=>F.ne (.r (.r e.symm)) rfl
      have g6:fJ T (cQ {d:=9,at_:=x0.at_,s:=o,c:=[(f.L.length:Int),(r.L.length:Int)]} E) c 8:=by
       have:=k9.gr (Gr.add {d:=9,at_:=x0.at_,s:=o,c:=[(f.L.length:Int),(r.L.length:Int)]} E) (Nat.le_of_lt S.lt) Oa;unfold fJ at this ⊢;omega
      have d9:Hid ((gT T f).1=cQ {d:=9,at_:=x0.at_,s:=o,c:=[(f.L.length:Int),(r.L.length:Int)]} E/\(gT T f).2=(E.L.length:Int)):=⟨by rw[HW.o,i5.o],by rw[HW.o]⟩;clear HW k9 i5;generalize cQ {d:=9,at_:=x0.at_,s:=o,c:=[(f.L.length:Int),(r.L.length:Int)]} E=l6 at*;generalize (E.L.length:Int)=xn at*;have g2:Hid (Bx H O U gw e9 vI (a6++[(Qe p.1.size 2 2,.slice none 0 0,.slice none 0 0)]) w.1.size X {d:=2,at_:=t.e,s:=t.f,g:=l,e:=j} (.slice none 0 0,v2,.slice ao j.length cp) Z/\PW H O U gw cw T l6 e9 vI (a6++[(Qe p.1.size 2 2,.slice none 0 0,.slice none 0 0)]) Z/\Px O U Y e9 V (a6++[(Qe p.1.size 2 2,.slice none 0 0,.slice none 0 0)]) w Z):=⟨F,S,b2⟩;clear yf F S b2 i8 g3 j6 y7 o3 j9;generalize (a6++[(Qe p.1.size 2 2,.slice none 0 0,.slice none 0 0)]:List V3)=q3 at*;go_upto_region 21 with(at_builtin;refine wpList_append_lies _ rfl _ _ 70 rfl H 3 j0 _ 1 8 underlying70 o5 o9 p1 p2 rfl Oa (.slice ao j.length cp) j.length (fQ j) rfl (k0.alloc _) ⟨Z.1.size,0,none⟩ 1 1 [Qc xn] rfl rfl (World.news_of_block (cs:=#[Qc xn]) (t:=3) (fr:=(0,0)) (Qk Z _)) (by simp[Value.oneCell']) Oa (by unfold maxLen;omega) Oa (by simp;omega) (Z.1.size+1) Od ?_;intro gg b6 r6 k2 P g1 y3;have q5:=(P.frozen_far ⟨X,7,none⟩ (by simp;omega) g7).t f7;have q6:=(P.cell_far ⟨X,7,none⟩ (by simp;omega) g7).t d7)
      obtain⟨F,S,b2⟩:=g2.o;obtain⟨n8,k7,q0⟩:=F.whe S b2 rfl rfl (x:=xn) (w1:=Z.alloc (Qf #[Qc xn] 3)) ⟨rfl,rfl,rfl,Od⟩ (fun _ b=>On b) k2 P (g1.imp id (fun e=>by simpa using e));clear F S b2 g2 k0 k2 P g1 y3 q5 q6 c7 d7 f7 j8 g7 o8;go_wp2_with fail
      refine(pG xY k7).mono ?_;rintro e r7 ⟨rfl,r3,rfl⟩;go_wp2;go_roundg m
      case rel=>
       have e1:=HS.o;rw[d9.o.1,d9.o.2]at e1;have e2:=o7;rw[d9.o.1]at e2;exact⟨l6,_,j++[xn],_,_,_,rfl,k7.drewN _,q0.drewN _,n8.old (fun _ _=>rfl),by simp;omega,e2,fun h=>pK h,g6,e1⟩
      case measure=>omega
     ·have HF:Hid (eF T gk more j C=(C,j)):=by
       cases gk
       ·rfl
       ·exact if_neg Q
      have d8:more=false\/(more=true/\(C.a==0)=false):=by
       cases more
       ·exact .l rfl
       ·exact .r ⟨rfl,by simpa using fun e=>Q ⟨rfl,e⟩⟩
      have n4:Hid (pN T B st=(cQ {d:=2,at_:=t.e,s:=t.f,g:=l,e:=j,c:=[(B C).2]} (B C).1,((B C).1.L.length:Int))):=by
       have e1:eF T T.length (dF T J mY) [] J=(C,j):=M.o.symm.t HF.o;have:=i4.o;rw[e1]at this;exact this
      have i9:=gB C;clear Q q M HF i4 d3 d1;rcases d8 with rfl|⟨rfl,t1⟩
      all_goals
       go_wp2_with fail
       refine(HB.o _ _ _ _ c o2 z (nZ T C) I.room).mono ?_;rintro e f4 ⟨rfl,r4,q4,g4,h6⟩;have e3:=N.px h6;have i2:=R.t h6;have j1:=I.gr i9 (Nat.le_of_lt g4.lt) Oa;clear N R h6 z I p3 i9;generalize (B C).2=c9 at*;generalize (B C).1=p4 at*;have e5:=e3.body g4 i2 c9;have b9:=e3.old (w':=f4.alloc (Qf #[Qc c9] 3)) (fun _ b=>On b);have l2:=(g4.alloc (Qf #[Qc c9] 3)).u0 b9.o 5 (Qe f4.1.size 1 1);have n3:=(i2.alloc (Qf #[Qc c9] 3)).j0 b9.m 5 (Qe f4.1.size 1 1);obtain⟨⟨_,_,_,_,_,d5⟩,_,df⟩:=b9.cells;have o1:=df 5;obtain⟨⟨z0,z1,z2,z3,z4,z5⟩,⟨z6,z7,z8,z9,q1⟩,zf⟩:=e5.cells;have g9:p4.L.length<=200000:=by unfold fJ at j1;omega
       clear e3 b9 g4 i2 j1 df;go_wp2_with fail
       refine(rX e5 l2 n3 g9).mono ?_;rintro e r8 ⟨rfl,hA⟩;have HA:Hid _:=hA;clear hA e5 l2 n3 z0 z1 z2 z3 z4 z5 z6 z7 z8 z9 q1 zf d5 o1;go_wp2;go_ret;rw[n4.o];exact⟨rfl,HA.o⟩
end
section
structure Ns where
 b:List ByteArray
 a:Int
 e:Int
 d:Sl
def Ns.e0(s:Ns)(e p:Int):Ns:=if s.a=0\/p < s.e\/(p=s.e/\e < s.a)then {s with a:=e,e:=p}else s
def aAR(x:ByteArray):List ByteArray->Int->Int
 |[],_=>-1
 |y::r,k=>if y=x then k else aAR x r (k+1)
def Ns.var(s:Ns)(x:ByteArray):Int:=aAR x s.b 0
def dA(x:ByteArray)(kd:Int):List (ByteArray × Int)->Int->Int
 |[],_=>-1
 |(y,k)::r,n=>if y=x then(if k=kd then n else -1)else dA x kd r (if k=kd then n+1 else n)
def Ns.f(s:Ns)(k p:Int):Ns:={s with d:=s.d++[(k,p)]}
def Ns.call(s:Ns)(FQ:List (Nat × Nat))(ref:Int)(n:Nat)(p:Int):Ns:=
 if ref < 0 then s else
  let f:=FQ.getD ref.toNat (0,0)
  let s1:=if f.1≠n then s.e0 5 p else s
  if 0 < f.2 then s1.f 4 p else s1
def nm1(S:List (ByteArray × Int))(FQ:List (Nat × Nat))(a:Nd)(n:Nat)(s:Ns):Ns:=
 if a.a=1\/(a.a=9/\a.flag=false)then(if s.var a.h < 0 then s.e0 4 a.b else s)
 else if a.a=2\/a.a=10 then
  let s1:=s.f (if a.a=10 then 2 else 1) a.b
  if dA a.h 1 S 0 < 0 then s1.e0 4 a.b else s1
 else if a.a=3 then
  let s1:=s.call FQ (dA a.h 2 S 0) n a.b
  if dA a.h 2 S 0 < 0 then s1.e0 4 a.b else s1
 else if a.a=6 then(if a.op=30\/a.op=31 then s.f 3 a.e else s)
 else s
def Ns.letQ(s:Ns)(x:ByteArray)(p:Int):Ns:=
 if 0<=s.var x then s.e0 4 p else if 12<=s.b.length then s.e0 5 p else {s with b:=s.b++[x]}
def mQ(S:List (ByteArray × Int))(FQ:List (Nat × Nat)):Tr->Ns->Ns
 | .nil,s=>s
 | .node _ _ a l r,s=>if a.a=9/\a.flag=true then(mQ S FQ l s).letQ a.h a.b else mQ S FQ r (mQ S FQ l (nm1 S FQ a (aJ l) s))
structure pW(a b:NQ):Prop where
 d:b.d=a.d
 at_:b.at_=a.at_
 s:b.s=a.s
 n:b.n=a.n
 mid:b.mid=a.mid
 c:b.c=a.c
 g:b.g=a.g
 e:b.e=a.e
 f:b.f=a.f
theorem pW.refl(a:NQ):pW a a:=⟨rfl,rfl,rfl,rfl,rfl,rfl,rfl,rfl,rfl⟩
theorem pW.t{a b c:NQ}(h:pW a b)(k:pW b c):pW a c:=⟨k.d.t h.d,k.at_.t h.at_,k.s.t h.s,k.n.t h.n,k.mid.t h.mid,k.c.t h.c,k.g.t h.g,k.e.t h.e,k.f.t h.f⟩
structure xZ(lo hi:Int)(L G:List NQ):Prop where
 len:G.length=L.length
 same:∀ (i:Nat) (a:NQ),L[i]?=some a->∃ b,G[i]?=some b/\pW a b/\(b=a\/(lo<=i/\(i:Int) < hi))
theorem xZ.refl(lo hi:Int)(L:List NQ):xZ lo hi L L:=⟨rfl,(by grind[pW.refl])⟩
theorem xZ.t{lo hi:Int}{L G d:List NQ}(h:xZ lo hi L G)(k:xZ lo hi G d):xZ lo hi L d:=
 ⟨k.len.t h.len,fun i a f=>by
   obtain⟨b,g,e,m⟩:=h.same i a f;obtain⟨c,j,l,n⟩:=k.same i b g;refine⟨c,j,e.t l,?_⟩
   grind⟩
theorem xZ.wide{lo hi lo' hi':Int}{L G:List NQ}(h:xZ lo hi L G)(d:lo'<=lo)(e:hi<=hi'):xZ lo' hi' L G:=
 ⟨h.len,fun i a c=>by
   obtain⟨b,f,g,j⟩:=h.same i a c
   grind⟩
theorem xZ.set{L:List NQ}{i:Nat}{a b:NQ}(h:L[i]?=some a)(f:pW a b):xZ i (i+1) L (L.set i b):=
 ⟨Od,fun j c d=>by
   by_cases e:j=i
   ·grind
   grind[List.getElem?_set_ne,pW.refl]⟩
def aB9(l:List ByteArray):List Value:=l.map Value.string
structure gZ(H X U:Nat)(L:List NQ)(I A F:List Int)(m:Int)(s:Ns)(Y vI D M B R:Value)(V:List V3)(w:World):Prop where
 nm:w.1[X]?=some (Qf #[Qd U,R,Qc s.a,Qc s.e] 129)
 prog:w.1[U]?=some (Qf #[Y,vI,D,M,Qc m,B] 76)
 nodes:w.ownsRow H 73 11 Y L.length (mM L V)
 its:w.ownsRow H 3 1 vI I.length (fQ I)
 arrs:w.ownsRow H 3 1 D A.length (fQ A)
 fns:w.ownsRow H 3 1 M F.length (fQ F)
 d:w.ownsRow H 55 3 B s.d.length (dK s.d)
 b:w.ownsRow H 9 1 R s.b.length (aB9 s.b)
 c:kZ H w L V
 size:H<=w.1.size
structure Nx(X U:Nat)(Y B R E C:Value)(w w':World):Prop where
 os:w'.os=w.os
 tape:w'.tape=w.tape
 output:w'.output=w.output
 size:w.1.size<=w'.1.size
 keep:∀ k,k < w.1.size->k≠X->k≠U->Y.ownBlock≠some k->B.ownBlock≠some k->R.ownBlock≠some k->w'.1[k]?=w.1[k]?
 rs:∀ k,E.ownBlock=some k->B.ownBlock=some k\/w.1.size<=k
 rv:∀ k,C.ownBlock=some k->R.ownBlock=some k\/w.1.size<=k
section
variable {H X U:Nat} {L G:List NQ} {I A F:List Int} {m:Int} {s:Ns} {Y vI D M B R E C K N:Value} {V:List V3} {w w' w2:World}
theorem Nx.refl(X U:Nat)(Y B R:Value)(w:World):Nx X U Y B R B R w w:=⟨rfl,rfl,rfl,Oa,Od,Qg,Qg⟩
theorem Nx.t(h:Nx X U Y B R E C w w')(k:Nx X U Y E C K N w' w2):Nx X U Y B R K N w w2:=by
 refine⟨k.os.t h.os,k.tape.t h.tape,k.output.t h.output,Qm h.size k.size,fun j b c d f g i=>?_,fun j b=>?_,fun j b=>?_⟩
 ·refine(k.keep j (Nat.lt_of_lt_of_le b h.size) c d f (fun e=>?_) (fun e=>?_)).t (h.keep j b c d f g i)
  ·rcases h.rs j e with e|e
   ·exact g e
   ·omega
  ·rcases h.rv j e with e|e
   ·exact i e
   ·omega
 ·rcases k.rs j b with e|e
  ·exact h.rs j e
  ·exact .r (Qm h.size e)
 ·rcases k.rv j b with e|e
  ·exact h.rv j e
  ·exact .r (Qm h.size e)
theorem gZ.same(h:gZ H X U L I A F m s Y vI D M B R V w)(d:∀ k,k < w.1.size->w'.1[k]?=w.1[k]?)(l:w.1.size<=w'.1.size):gZ H X U L I A F m s Y vI D M B R V w':=by
 have lt:∀ {k:Nat} {o:Obj},w.1[k]?=some o->k < w.1.size:=Qg;have b:∀ {n f:Nat} {e:TypeId} {v:Value} {g:List Value},w.ownsRow H e f v n g->w'.ownsRow H e f v n g:=(by grind[aR,fC])
 exact⟨(d _ (lt h.nm)).t h.nm,(d _ (lt h.prog)).t h.prog,b h.nodes,b h.its,b h.arrs,b h.fns,b h.d,b h.b,h.c.move (fun k i=>by
  obtain⟨⟨c,j⟩,_⟩:=h.c.typ i
  grind),Oi h.size⟩
theorem gZ.drewN(h:gZ H X U L I A F m s Y vI D M B R V w)(n:Nat):gZ H X U L I A F m s Y vI D M B R V (w.drewN n):=h.same Od Ol
theorem gZ.alloc(h:gZ H X U L I A F m s Y vI D M B R V w)(o:Obj):gZ H X U L I A F m s Y vI D M B R V (w.alloc o):=h.same (by grind[Below.heap_alloc]) Od
theorem Nx.drewN(h:Nx X U Y B R E C w w')(n:Nat):Nx X U Y B R E C w (w'.drewN n):=⟨h.os,h.tape,h.output,h.size,h.keep,h.rs,h.rv⟩
theorem Nx.alloc(h:Nx X U Y B R E C w w')(o:Obj):Nx X U Y B R E C w (w'.alloc o):=
 ⟨h.os,h.tape,h.output,Qm h.size Od,fun k b c d e f g=>(On (Nat.lt_of_lt_of_le b h.size)).t (h.keep k b c d e f g),h.rs,h.rv⟩
theorem gZ.turn(h:gZ H X U L I A F m s Y vI D M B R V w){f:Ns}(g:f.d=s.d)(q:f.b=s.b)(y:w'.1[X]?=some (Qf #[Qd U,R,Qc f.a,Qc f.e] 129))(b:Ex X w w'):gZ H X U L I A F m f Y vI D M B R V w'/\Nx X U Y B R B R w w':=by
 have off:∀ {k:Nat} {p:Array Value} {t:TypeId},w.1[k]?=some (.cells p t (0,0))->t≠129->w'.1[k]?=w.1[k]?:=fun i h0=>b.block _ Qg (bR i h.nm h0)
 have d:∀ {n l:Nat} {e:TypeId} {v:Value} {o:List Value},w.ownsRow H e l v n o->e≠129->w'.ownsRow H e l v n o:=fun j h0=>aR j (fun k u=>by
  obtain⟨⟨c,i⟩,_⟩:=aW j u
  grind)
 have r:kZ H w' L V:=h.c.move (fun k z=>by
  obtain⟨⟨c,i⟩,_⟩:=h.c.typ z
  grind)
 exact⟨⟨y,(off h.prog Ob).t h.prog,d h.nodes Ob,d h.its Ob,d h.arrs Ob,d h.fns Ob,by rw[g];exact d h.d Ob,by rw[q];exact d h.b Ob,r,Qb h.size b.size⟩,b.os,b.tape,b.output,b.size,fun k x g _ _ _ _=>b.block k x g,Qg,Qg⟩
theorem gZ.cells(h:gZ H X U L I A F m s Y vI D M B R V w):(w.cell? ⟨X,0,none⟩=some (Qd U)/\w.cell? ⟨X,1,none⟩=some R/\w.cell? ⟨X,2,none⟩=some (Qc s.a)/\w.cell? ⟨X,3,none⟩=some (Qc s.e)/\∀ o,w.frozen? ⟨X,o,none⟩=false)/\w.cell? ⟨U,0,none⟩=some Y/\w.cell? ⟨U,1,none⟩=some vI/\w.cell? ⟨U,2,none⟩=some D/\w.cell? ⟨U,3,none⟩=some M/\w.cell? ⟨U,4,none⟩=some (Qc m)/\w.cell? ⟨U,5,none⟩=some B/\∀ o,w.frozen? ⟨U,o,none⟩=false:=
 ⟨⟨Og h.nm rfl,Og h.nm rfl,Og h.nm rfl,Og h.nm rfl,fun o=>by simp[World.frozen?,h.nm]⟩,Og h.prog rfl,Og h.prog rfl,Og h.prog rfl,Og h.prog rfl,Og h.prog rfl,Og h.prog rfl,fun o=>by simp[World.frozen?,h.prog]⟩
theorem gZ.node(h:gZ H X U L I A F m s Y vI D M B R V w){i:Nat}{a:NQ}(hi:L[i]?=some a):∃ g J v,Y= Qe g L.length J/\V[i]?=some v/\uA H w a v/\(∀ j,j < 11->w.cell? ⟨g,i*11+j,none⟩=(NdV a v)[j]?)/\∀ o,w.frozen? ⟨g,o,none⟩=false:=by
 obtain⟨v,b,e⟩:=h.c.get hi;have n:=(List.getElem?_eq_some_iff.1 hi).1;obtain⟨_,d⟩:=h.nodes;rcases d with⟨_,p⟩|⟨g,J,f,h0,_,l,_,_,_,q⟩
 ·omega
 ·refine⟨g,J,v,h0,b,e,fun j c=>?_,(by grind[World.frozen?])⟩;have k:=aAM L V i a v hi b j c
  grind[cell_of_row]
theorem jW(e p:Int)(h:gZ H X U L I A F m s Y vI D M B R V w):Calls prog 65 #[Qd X,Qc e,Qc p] w fun x w'=>x= .returned (.tuple #[])/\gZ H X U L I A F m (s.e0 e p) Y vI D M B R V w'/\Nx X U Y B R B R w w':=by
 obtain⟨⟨_,_,c2,c3,d⟩,_⟩:=h.cells;have o:=d 2;have f3:=d 3
 by_cases b:s.a=0\/p < s.e\/(p=s.e/\e < s.a)
 ·have j:Hid (s.e0 e p={s with a:=e,e:=p}):=if_pos b
  have h0:(s.a==0)=true\/((s.a==0)=false/\(decide (p < s.e))=true)\/((s.a==0)=false/\decide (p < s.e)=false/\(p==s.e)=true/\decide (e < s.a)=true):=by
   by_cases c:s.a=0
   ·exact .l (by simp[c])
   ·have c:(s.a==0)=false:=by simp[c]
    by_cases g:p < s.e
    ·exact .r (.l ⟨c,by simp[g]⟩)
    ·rcases b with b|b|b
     ·simp[b]at c
     ·exact absurd b g
     ·exact .r (.r ⟨c,by simp[g],by simp[b.1],by simp[b.2]⟩)
  have f:Hid (gZ H X U L I A F m s Y vI D M B R V w):=h;clear b h d;rcases h0 with t0|⟨t0,k⟩|⟨t0,k,l,n⟩
  all_goals
   go_enter func65,ntmps65
   go_wp2;go_end0
   rw[j.o];exact⟨rfl,f.o.turn rfl rfl (aI _ (aI _ f.o.nm)) (((Ex.refl X w).set 2 _).set 3 _)⟩
 ·have j:Hid (s.e0 e p=s):=if_neg b
  have h0:(s.a==0)=false/\decide (p < s.e)=false/\((p==s.e)=false\/((p==s.e)=true/\decide (e < s.a)=false)):=by
   refine⟨by simpa using fun h=>b (.l h),by simpa using fun h=>b (.r (.l h)),?_⟩
   by_cases i:p=s.e
   ·exact .r ⟨by simp[i],by simpa using fun h=>b (.r (.r ⟨i,h⟩))⟩
   ·exact .l (by simp[i])
  have f:Hid (gZ H X U L I A F m s Y vI D M B R V w):=h;clear b h d;obtain⟨t0,k,l|⟨l,n⟩⟩:=h0
  all_goals
   go_enter func65,ntmps65
   go_wp2;go_end0
   rw[j.o];exact⟨rfl,f.o,Nx.refl _ _ _ _ _ _⟩
end
end
section
variable {H X U:Nat} {L:List NQ} {I A F:List Int} {m:Int} {s:Ns} {Y vI D M B R:Value} {V:List V3} {w:World}
theorem aEQ(x:ByteArray):∀ (l:List ByteArray) (k:Int) (i:Nat) (y:ByteArray),l[i]?=some y->(∀ j,j < i->l[j]?≠some x)->aAR x l k=aAR x (l.drop i) (k+i)
 |[],_,i,y,h,_=>by simp at h
 |z::r,k,0,y,_,_=>Od
 |z::r,k,i+1,y,h,hj=>by
  have b:z≠x:=fun e=>hj 0 Oa (by simp[e]);show(if z=x then k else aAR x r (k+1))=_;rw[if_neg b,aEQ x r (k+1) i y (by simpa using h) Qg]
  grind
theorem aEP(x:ByteArray):∀ (l:List ByteArray) (k:Int),(∀ j:Nat,l[j]?≠some x)->aAR x l k= -1
 |[],_,_=>rfl
 |z::r,k,h=>by
  have b:z≠x:=fun e=>h 0 (by simp[e]);show(if z=x then k else aAR x r (k+1))= -1;rw[if_neg b];exact aEP x r (k+1) (fun j=>by have:=h (j+1);assumption)
theorem aKA{v:Value}{l:List ByteArray}(h:w.ownsRow H 9 1 v l.length (aB9 l)){i:Nat}{y:ByteArray}(hi:l[i]?=some y):∃ g J,v= Qe g l.length J/\w.cell? ⟨g,i,none⟩=some (.string y):=by
 have f:=(List.getElem?_eq_some_iff.1 hi).1;obtain⟨_,b⟩:=h;rcases b with⟨_,j⟩|⟨g,J,c,h0,_,e,_,_,_,k⟩
 ·omega
 ·refine⟨g,J,h0,?_⟩;have d:(aB9 l)[i]?=some (.string y):=by simp[aB9,hi]
  grind[cell_of_row]
theorem yI(x:ByteArray)(S:s.b.length<=100000)(h:gZ H X U L I A F m s Y vI D M B R V w):Calls prog 109 #[Qd X,.string x] w fun e w'=>e= .returned (Qc (s.var x))/\w=w':=by
 obtain⟨⟨_,c1,_⟩,_⟩:=h.cells;obtain⟨t,u,rfl,_⟩:=bP h.b;go_enter func109,ntmps109
 go_wp2_with fail
 go_loopg [5] (s.b.length+1) (fun o r wr=>∃ i:Nat,r= Qc i/\wr=w/\i+o=s.b.length+1/\∀ j,j < i->s.b[j]?≠some x)
 case atStart=>exact⟨0,rfl,rfl,Oa,fun j b=>Oa⟩
 case round=>
  obtain⟨i,rfl,rfl,Q,b⟩:=hrel
  by_cases hi:i < s.b.length
  ·obtain⟨y,d⟩:∃ y,s.b[i]?=some y:=⟨s.b[i],by simp[hi]⟩;obtain⟨g,J,k,P⟩:=aKA h.b d;have z:0<=(i:Int)/\(i:Int) < (s.b.length:Int):=Oa
   have t0:decide ((i:Int) < (s.b.length:Int))=true:=by simp;omega
   simp only[Value.slice.injEq]at k;obtain⟨rfl,_,rfl⟩:=k;obtain⟨p,rfl⟩:=Oj gk;have W:IntKind.i64.wrap ((i:Int)+1)=(i:Int)+1:=IntWalk.i64_in _ Oa
   by_cases c:y=x
   ·have q:(y.toList==x.toList)=true:=by rw[uG,decide_eq_true c]
    have f:Hid (s.var x=(i:Int)):=by
     unfold Hid Ns.var;rw[aEQ x s.b 0 i y d b]
     have:s.b.drop i=y::s.b.drop (i+1):=by
      rw[List.drop_eq_getElem_cons hi]
      congr 1
      have:=List.getElem?_eq_getElem hi;rw[d]at this;exact(Oq this).symm
     rw[this];show(if y=x then(0+(i:Int))else _)=_;rw[if_pos c];omega
    clear c b d;go_wp2;go_ret;rw[f.o];exact⟨rfl,rfl⟩
   ·have q:(y.toList==x.toList)=false:=by rw[uG,decide_eq_false c]
    have n:Hid (∀ j,j < i+1->s.b[j]?≠some x):=fun j h0=>by
     by_cases e:j=i
     ·rw[e,d];exact fun l=>c (Oq l)
     ·exact b j Oa
    clear c b d;go_wp2;go_roundg p
    case rel=>exact⟨i+1,Od,rfl,Oa,n.o⟩
    case measure=>omega
  ·have t0:decide ((i:Int) < (s.b.length:Int))=false:=by simp;omega
   have f:Hid (s.var x= -1):=aEP x s.b 0 (fun j=>by
    by_cases h0:j < i
    ·exact b j h0
    ·rw[List.getElem?_eq_none Oa];simp)
   clear b;go_wp2;go_ret;rw[f.o];exact⟨rfl,rfl⟩
end
section
theorem aX5{l:List UInt8}:∀ (n k j:Nat),k<=j->j < k+n->Lib.hasPrefix (spL j) l=true->rT l k n=true
 |0,_,_,h1,h2,_=>Oa
 |n+1,k,j,h1,h2,h3=>by
  unfold rT;rcases Nat.eq_or_lt_of_le h1 with rfl|h
  ·simp[*]
  ·rw[aX5 n (k+1) j h Oa h3,Bool.or_true]
theorem aYX{a b:UInt8}{l:List UInt8}(h:wZ (a::b::l)=true):wZ [a]=true:=by
 obtain⟨j,c,d,e⟩:=aNH 22 12 h;refine aX5 22 12 j c d ?_;unfold Lib.hasPrefix at e ⊢;cases hs:spL j with
 |nil=>grind
 |cons x r=>
  grind
theorem aPE{s:ByteArray}{p:Nat}(_:p < s.size)(h:eQ (Utf8.decode s p).1=true):(97<=(s.get! p).toNat/\(s.get! p).toNat<=122)\/(65<=(s.get! p).toNat/\(s.get! p).toNat<=90)\/(s.get! p).toNat=95\/128<=(s.get! p).toNat:=by
 grind[Utf8.decode,eQ]
theorem aLS{s:ByteArray}{p A:Nat}(b:0 < A)(c:p+A<=s.size):∃ l,(s.extract p (p+A)).data.toList=s.get! p::l:=by
 have h0:=(aJ1 (k:=0) b c).1;have d:=(aJ1 (k:=0) b c).2;rw[Nat.add_zero]at h0;have:=aJG (s:=s.extract p (p+A)) (p:=0) Oa;rw[List.drop_zero,h0]at this;exact⟨_,this⟩
theorem aV6{X:ByteArray}{A K b:Nat}(e:X.size=A)(f:0 < A)(d:(Utf8.decode X 0).2=b)(i:1<=b)(g:1<=K)(h:∀ c,A - b<=c->Lib.runeCountFrom X c b=K - 1+Lib.runeCountFrom X (c - (K - 1)) A):Lib.runeCount X=K:=by
 obtain⟨B,rfl⟩:∃ B,A=B+1:=Qh;unfold Lib.runeCount;rw[e,Lib.runeCountFrom,if_pos Oa,Nat.zero_add,d,h B Oa,Lib.runeCountFrom_end _ _ _ Oa];omega
theorem aQI{s:ByteArray}{cf:dI}{p:Nat}(f:p < s.size)(j:cf.f=s)(g:cf.a=0)(z0:lJ s p (Utf8.decode s p).1=false)(y5:rV (Utf8.decode s p).1=false)(a5:(Utf8.decode s p).1≠35){D:dI}(d:D=if(cf.m0 p (Utf8.decode s p).1).a≠0 then cf.m0 p (Utf8.decode s p).1 else Dn s (cf.m0 p (Utf8.decode s p).1) (p+(Utf8.decode s p).2)):
 ((jV s p).2.2≠0->D.a=(jV s p).2.2/\D.e=p)/\((jV s p).2.2=0->∃ (c:dI) (t:aU),D=Dn s c (p+(jV s p).2.1)/\c.f=s/\c.a=0/\(p+(jV s p).2.1 < s.size->c.goes (p+(jV s p).2.1) (Utf8.decode s (p+(jV s p).2.1)).1=false)/\(c.d0 (p+(jV s p).2.1)).a=0/\(c.d0 (p+(jV s p).2.1)).words=cf.words++[t]/\QT t (jV s p).1):=by
 have hw:=Lib.decode_width_pos s p f;have hl:=lW s p f;have cP:(s.extract p s.size).size=s.size - p:=by rw[ByteArray.size_extract];omega
 have y9:uY ((s.extract p s.size).extract 0 (s.extract p s.size).size)=(((Utf8.decode s p).1:Int),((Utf8.decode s p).2:Int)):=by
  rw[aMQ,Nat.add_zero];rcases aAF s p with⟨_,o,_⟩|⟨z,_⟩
  ·rw[z0]at o;cases o
  ·exact z
 have P:nmQ (s.extract p s.size)=if eQ (Utf8.decode s p).1=true then nmL (s.extract p s.size) (s.extract p s.size).size (Utf8.decode s p).2 1 else(0,0):=by
  unfold nmQ;rw[nmL,if_pos Oa,y9];simp only[Int.toNat_natCast,Nat.zero_add]
  by_cases i:eQ (Utf8.decode s p).1=true
  ·rw[if_pos i,if_neg];rintro(h|⟨h,_⟩)
   ·omega
   ·rw[i]at h;cases h
  ·rw[if_neg i,if_pos (.r ⟨by simpa using i,.r trivial⟩)]
 have z1:cf.m0 p (Utf8.decode s p).1=if eQ (Utf8.decode s p).1=true then {cf with start:=p,mode:=2}else if eN (Utf8.decode s p).1=true then {cf with start:=p,mode:=3}else if wZ (Utf8.encode (Utf8.decode s p).1).data.toList=true then {cf with start:=p,mode:=4}else({cf with start:=p}:dI).fail 1 p:=by
  unfold dI.m0;rw[if_neg (by rw[y5];decide),Oh]
 rw[z1]at d;unfold jV;dsimp only
 by_cases i:eQ (Utf8.decode s p).1=true
 ·
   rw[if_pos i]at P;rw[if_pos i,if_neg (by show ¬cf.a≠0;omega)]at d;obtain⟨n1,S,y,n4⟩:=aSQ (c:={cf with start:=p,mode:=2}) j rfl g (Nat.le_of_lt f) (s.extract p s.size).size (Utf8.decode s p).2 1 Ob hl (by rw[cP];omega);have k8:=aWX (s.extract p s.size) (s.extract p s.size).size (Utf8.decode s p).2 1;rw[P];generalize nmL (s.extract p s.size) (s.extract p s.size).size (Utf8.decode s p).2 1=AK at*;obtain⟨A,K⟩:=AK;dsimp only at n1 S y n4 k8 ⊢
   have y8:(s.extract p s.size).extract 0 A=s.extract p (p+A):=by
    rw[ByteArray.extract_extract,Nat.add_zero,Nat.min_eq_left y]
   have y4:(s.extract p (p+A)).size=A:=by rw[ByteArray.size_extract];omega
   have y3:Lib.runeCount (s.extract p (p+A))=K:=by
    have hd:=aJE (s:=s) (p:=p) (A:=A) (a:=0) y (.l i) (by simpa using k8.1) Oa;rw[Nat.add_zero]at hd;exact aV6 y4 Oa (congrArg Prod.snd hd) hw k8.2 (n4 A Ol y)
   rw[if_pos (show 0 < A by omega),y8];obtain⟨l,y7⟩:=aLS (A:=A) Oa y;obtain⟨o1,o2⟩:=aY4 y7 (aPE f i)
   have h0:({cf with start:=p,mode:=2}:dI).d0 (p+A)=if 12 < K then({cf with start:=p,mode:=2}:dI).fail 1 p else if xW (s.extract p (p+A)).data.toList=true then({cf with start:=p,mode:=2}:dI).push (zU (s.extract p (p+A)).data.toList) 0 (ByteArray.mk #[])else({cf with start:=p,mode:=2}:dI).push 1 0 (s.extract p (p+A)):=by
    unfold dI.d0;rw[if_pos rfl];unfold dI.named;show(if 12 < Lib.runeCount (cf.f.extract (p:Int).toNat (p+A))then _ else _)=_;rw[j,Int.toNat_natCast,y3]
   rw[n1]at d
   by_cases y1:12 < K
   ·rw[if_pos y1]at h0 ⊢;refine⟨fun _=>?_,fun h=>absurd h (show ¬(1:Int)=0 by decide)⟩;obtain⟨f1,W⟩:=aAA (c:=({cf with start:=p,mode:=2}:dI)) (e:=1) (p:=p) g;obtain⟨g1,g2⟩:=aLM (c:=({cf with start:=p,mode:=2}:dI)) j y S (by rw[h0,f1];decide);rw[d,g1,g2,h0];exact⟨f1,W⟩
   ·rw[if_neg y1]at h0 ⊢;refine⟨fun h=>absurd rfl h,fun _=>?_⟩
    by_cases q:xW (s.extract p (p+A)).data.toList=true
    ·rw[if_pos q]at h0;refine⟨_,⟨zU (s.extract p (p+A)).data.toList,p,ByteArray.mk #[],0⟩,d,j,g,S,by rw[h0];exact g,by rw[h0];rfl,?_⟩;have a3:=o2 q;obtain⟨q1,q2,q3⟩:=uJ q;rw[o1,q,if_pos rfl];exact⟨rfl,.r (.r (.r ⟨by show(3:Int)<=((zU _:Nat):Int);omega,by show((zU _:Nat):Int)<=33;omega,rfl,by show _=sp ((zU _:Nat):Int).toNat;rw[Int.toNat_natCast];exact(aF2.2 q1).symm⟩))⟩
    ·rw[if_neg q]at h0;refine⟨_,⟨1,p,s.extract p (p+A),0⟩,d,j,g,S,by rw[h0];exact g,by rw[h0];rfl,?_⟩;rw[o1,if_neg q];exact⟨rfl,.r (.l ⟨rfl,rfl,rfl⟩)⟩
 rw[if_neg i]at P d;rw[P,if_neg Ob]
 by_cases k0:eN (Utf8.decode s p).1=true
 ·
   rw[if_pos k0,if_neg (by show ¬cf.a≠0;omega)]at d;have y0:=(aAE f).1 k0;have J:=aCC f y0;rw[J]at d;have n:=aD5 (s:=s) (a:=p) (b:=p) f Ol;have z3:kX (lY s p p)=0:=by unfold lY;rw[Lib.extract_data];simp[kX]
   rw[z3]at n;obtain⟨m1,m2⟩:=aVG (c:={cf with start:=p,mode:=3}) j rfl g rfl (s.extract p s.size).size 1 (((s.get! p).toNat:Int) - 48) Oa (by rw[cP];omega) (by rw[n];omega) Oa Oa
   have k9:dgQ (s.extract p s.size)=dgL (s.extract p s.size) (s.extract p s.size).size 1 (((s.get! p).toNat:Int) - 48):=by
    unfold dgQ;rw[dgL,sV,Nat.add_zero,if_pos ⟨Oa,y0⟩,Oh];rw[show(10:Int)*0+(((s.get! p).toNat:Int) - 48)=((s.get! p).toNat:Int) - 48 by omega]
   rw[k9];generalize dgL (s.extract p s.size) (s.extract p s.size).size 1 (((s.get! p).toNat:Int) - 48)=R at*;obtain⟨A,v,a2⟩:=R;dsimp only at m1 m2 ⊢;cases a2
   ·obtain⟨Z,j2,j3,j4,j5,j6⟩:=m1 rfl;rw[if_neg Ob,if_pos Oa];refine⟨fun h=>absurd rfl h,fun _=>?_⟩
    have h0:({cf with start:=p,mode:=3}:dI).d0 (p+A)=({cf with start:=p,mode:=3}:dI).push 2 v (ByteArray.mk #[]):=by
     rw[aD6 (p:=p) rfl rfl];show(if 999999999 < kX (lY cf.f p (p+A))then _ else _)=_;rw[j,<-j4,Oh]
    exact⟨_,⟨2,p,ByteArray.mk #[],v⟩,d.t Z,j,g,j2,by rw[h0];exact g,by rw[h0];rfl,rfl,.r (.r (.l ⟨rfl,rfl,rfl⟩))⟩
   ·obtain⟨Z,j2⟩:=m2 rfl;rw[if_pos rfl];refine⟨fun _=>?_,fun h=>absurd h (show ¬(3:Int)=0 by decide)⟩;rw[d];exact⟨Z,j2⟩
 rw[if_neg k0]at d
 have k9:dgQ (s.extract p s.size)=(0,0,false):=by
  unfold dgQ;rw[dgL,sV,Nat.add_zero,if_neg];rintro⟨_,z,o⟩;exact k0 ((aAE f).2 ⟨z,o⟩)
 rw[k9,if_neg Ob,if_neg Ob]
 by_cases x:wZ (Utf8.encode (Utf8.decode s p).1).data.toList=true
 ·
   rw[if_pos x,if_neg (by show ¬cf.a≠0;omega)]at d
   have a4:(Utf8.decode s p).1 < 128:=by
    rcases Qt (Utf8.decode s p).1 128 with h|h
    ·exact h
    ·obtain⟨a6,a7,l,z,o⟩:=aDS (r:=((Utf8.decode s p).1:Int)) Oa;rw[z,aNI o]at x;cases x
   have k:(s.get! p).toNat < 128:=by
    rcases Qt (s.get! p).toNat 128 with h|h
    ·exact h
    ·rw[jE f]at h;exact absurd (decode_high s p f Oa).1 Oa
   have J:Utf8.decode s p=((s.get! p).toNat,1):=by
    rw[jE f]at k ⊢;exact decode_ascii s p f k
   rw[J]at d;obtain⟨s1,s2⟩:=aRG (c:={cf with start:=p,mode:=4}) f j g rfl rfl
   by_cases u:vY (s.extract p s.size)=⟨#[]⟩
   ·rw[if_pos u];refine⟨fun _=>?_,fun h=>absurd h (show ¬(1:Int)=0 by decide)⟩;rw[d];exact s1 u
   ·rw[if_neg u];obtain⟨k1,k2,k3,Q,k4,k5,k6,k7⟩:=s2 u;refine⟨fun h=>absurd rfl h,fun _=>⟨_,⟨Q,p,ByteArray.mk #[],0⟩,d.t k1,j,g,k3,by rw[k7];exact g,by rw[k7];rfl,rfl,.r (.r (.r ⟨by show(3:Int)<=(Q:Int);omega,by show(Q:Int)<=33;omega,rfl,by show vY _=sp (Q:Int).toNat;rw[Int.toNat_natCast];exact k6⟩))⟩⟩
 ·rw[if_neg x]at d;obtain⟨f1,W⟩:=aAA (c:=({cf with start:=p}:dI)) (e:=1) (p:=p) g;rw[if_pos (by rw[f1];decide)]at d
  have u:vY (s.extract p s.size)=⟨#[]⟩:=by
   obtain⟨_,_,y6,y2⟩:=aI9 f
   have n:wZ [s.get! p]=false:=by
    by_cases k:(s.get! p).toNat < 128
    ·have J:Utf8.decode s p=((s.get! p).toNat,1):=by
      rw[jE f]at k ⊢;exact decode_ascii s p f k
     have e:((Utf8.decode s p).1:Int)=((s.get! p).toNat:Int):=by rw[J]
     rw[e,aCB k,UInt8.ofNat_toNat]at x;exact Bool.eq_false_iff.2 x
    ·exact aNI (Nat.le_of_not_lt k)
   have z2:wZ [s.get! p,s.get! (p+1)]=false:=by
    rw[Bool.eq_false_iff];intro h;rw[aYX h]at n;cases n
   unfold vY;rw[y6,z2,Bool.and_false,y2,if_neg Ob,if_neg];intro h;rw[(aIL (s.get! p)).2.2 h]at n;cases n
  rw[if_pos u];refine⟨fun _=>?_,fun h=>absurd h (show ¬(1:Int)=0 by decide)⟩;rw[d];exact⟨f1,W⟩
theorem aXI{s:ByteArray}:∀ (f p:Nat) (g:Bool) (l:List aU) (c:dI),p<=s.size->s.size < p+f->Wb s p g l c->
 ((Dn s c p).a≠0->wdL s f p g l=([],(Dn s c p).a,(Dn s c p).e))/\((Dn s c p).a=0->∃ Q,wdL s f p g l=(Q,0,0)/\QTL ((Dn s c p).words++[⟨0,s.size,ByteArray.mk #[],0⟩]) Q):=by
 intro f
 induction f with
 |zero=>omega
 |succ f ih=>
  intro p g l c Z hf h;unfold wdL
  by_cases h0:p < s.size
  ·rw[if_pos h0];have hw:=Lib.decode_width_pos s p h0;have o:=lW s p h0;have k1:uY (s.extract p s.size)=cq s p:=rfl;rw[k1];have W:=dI.z0 c p;have q:(c.d0 p).f=s:=W.1.t h.f;rcases aAF s p with⟨r,u,P⟩|⟨r,u⟩
   ·
     rw[r,if_pos rfl]
     have j:c.goes p (Utf8.decode s p).1=false:=by
      cases g
      ·exact h.b rfl h0
      ·unfold dI.goes;rw[if_pos (h.com_ rfl),h.f,u];simp
     have i:(c.d0 p).m0 p (Utf8.decode s p).1=({c.d0 p with start:=p}:dI).fail 1 p:=by
      rw[P];rfl
     obtain⟨f1,f2⟩:=aAA (c:=({c.d0 p with start:=p}:dI)) (e:=1) (p:=p) h.fin
     grind[Dn,start,aH2]
   ·rw[r];have S: ¬((Utf8.decode s p).2:Int)=0:=Oa
    simp only[S,if_false];cases g
    ·have j:=h.b rfl h0;have b:=aH2 h.f h0 j
     by_cases x:(Utf8.decode s p).1=35
     ·
       have i:(c.d0 p).m0 p (Utf8.decode s p).1={c.d0 p with start:=p,mode:=1}:=by
        rw[x];rfl
       rw[i,if_neg (by show ¬(c.d0 p).a≠0;exact fun d=>d h.fin)]at b;rw[b,x];exact ih _ _ _ _ o Oa ⟨q,h.fin,fun _=>rfl,h.fin,h.words,(fun e=>by cases e)⟩
     by_cases a2:rV (Utf8.decode s p).1=true
     ·have i:(c.d0 p).m0 p (Utf8.decode s p).1={c.d0 p with start:=p,mode:=0}:=by
       unfold dI.m0;simp[*]
      rw[i,if_neg (by show ¬(c.d0 p).a≠0;exact fun d=>d h.fin)]at b
      have k:qV false ((Utf8.decode s p).1:Int)=true:=by
       grind[rV,qV]
      have n:aBT false ((Utf8.decode s p).1:Int)=false:=by
       grind[aBT,Utf8.decode]
      rw[b,if_pos k,n];simp only;exact ih _ _ _ _ o Oa ⟨q,h.fin,Od,h.fin,h.words,fun _ _=>rfl⟩
     ·have k: ¬qV false ((Utf8.decode s p).1:Int)=true:=by
       grind[rV,qV]
      rw[if_neg k];obtain⟨w1,w2⟩:=aQI (cf:=c.d0 p) h0 q h.fin u Qh x b
      by_cases y:(jV s p).2.2≠0
      ·grind
      ·have y:(jV s p).2.2=0:=Oa
       obtain⟨c2,t,q1,q2,q3,q4,q5,q6,q7⟩:=w2 y;obtain⟨wl,wr⟩:=aHJ h0 y;rw[Oh,q1];refine ih _ _ _ _ wr Oa ⟨q2,q3,Od,q5,?_,Qg⟩;rw[q6];exact h.words.snoc q7
    ·
      have hm:=h.com_ rfl
      have k0:c.d0 p=c:=by
       grind[dI.d0]
      have k:qV true ((Utf8.decode s p).1:Int)=true:=rfl;rw[if_pos k];simp only[Int.toNat_natCast]
      have a3:c.goes p (Utf8.decode s p).1=(((Utf8.decode s p).1:Int)!=10):=by
       grind[dI.goes]
      by_cases J:(Utf8.decode s p).1=10
      ·have j:c.goes p (Utf8.decode s p).1=false:=Qg
       have b:=aH2 h.f h0 j
       have i:(c.d0 p).m0 p (Utf8.decode s p).1={c.d0 p with start:=p,mode:=0}:=by
        rw[J];rfl
       rw[i,if_neg (by show ¬(c.d0 p).a≠0;exact fun d=>d h.fin)]at b;have n:aBT true ((Utf8.decode s p).1:Int)=false:=by rw[J];rfl
       rw[b,n];exact ih _ _ _ _ o Oa ⟨q,h.fin,Od,h.fin,h.words,fun _ _=>rfl⟩
      ·have j:c.goes p (Utf8.decode s p).1=true:=by
        grind
       have n:aBT true ((Utf8.decode s p).1:Int)=true:=by
        grind[aBT,Utf8.decode]
       rw[aJD h.f h0 h.a j,n]
       have z:c.d0 (p+(Utf8.decode s p).2)=c:=by
        grind[dI.d0]
       refine ih _ _ _ _ o Oa ⟨h.f,h.a,Oa,by rw[z];exact h.a,?_,Od⟩;rw[z,<-k0];exact h.words
  ·rw[if_neg h0];have b:=aTH h.f h0 Z;rw[b];refine⟨fun d=>absurd h.fin d,fun _=>⟨_,rfl,h.words.snoc ?_⟩⟩;exact⟨rfl,.l ⟨rfl,rfl,rfl⟩⟩
theorem aEN(s:ByteArray)(b:s.size<=4000):((eI s).a≠0->oP s=([],(eI s).a,(eI s).e))/\((eI s).a=0->∃ Q,oP s=(Q,0,0)/\QTL (cE s) Q):=by
 unfold oP;rw[Oh,aYQ];have h:=aXI (s:=s) (s.size+1) 0 false [] ⟨s,[],0,0,0,0⟩ Oa Oa ⟨rfl,rfl,Od,rfl,trivial,fun _ _=>rfl⟩;exact h
end
end Go.Proofs.YtikffmloeifkpaaGreatDoor
