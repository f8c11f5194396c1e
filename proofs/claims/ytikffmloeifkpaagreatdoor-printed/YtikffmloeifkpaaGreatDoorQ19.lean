/- Contracts. -/
import Derived.Test.YtikffmloeifkpaaGreatDoorQ18
set_option maxHeartbeats 8000000
set_option maxRecDepth 100000
namespace Go.Proofs.YtikffmloeifkpaaGreatDoor
section
open Go.RowKit Go.Lib Go.Deep Go.ChangeMaps Go.MapKept
variable {H pb nb:Nat} {it vA vF:Value} {m:Int} {fl:List Tr}
theorem aPQ{b o:Nat}{a:Nd}{l r:Tr}(hw:Ws 2 (.node b o a l r))(hH:aUI H (.node b o a l r))(y3:(ps (.node b o a l r)).Nodup)(hE:a.tag=9\/a.tag=10\/a.tag=13\/a.tag=14->Ws 0 l/\GSi 197 H pb nb it vA vF m fl bCH l)(y4:a.tag=10->Ws 0 r/\GSi 197 H pb nb it vA vF m fl bCH r)(hC:a.tag=11\/a.tag=12->Ws 1 l/\GSi 199 H pb nb it vA vF m fl bCH l)(hB:a.tag=12->Ws 4 r/\GSi 76 H pb nb it vA vF m fl bCH r)(hI:a.tag=11->∃ x y z p q,r= .node x y z p q/\z.tag=18/\Ws 4 p/\Ws 4 q/\GSi 76 H pb nb it vA vF m fl bCH p/\GSi 76 H pb nb it vA vF m fl bCH q):
 GSi 129 H pb nb it vA vF m fl bCH (.node b o a l r):=by
 obtain⟨hoka,sx,sy,k2,y2,y1⟩:=hw.parts;obtain⟨j8,j7⟩:=jR hw;have uq:=dZ y3;have z8:=hH.2.2 (by unfold gY;omega);intro S w h hi hS;have y0:a.tag≠20:=Oa
 have k1:=hi.2.2;have k5:=kI b o a l r;have y6:=lS fl l S;have hv:bCH (.node b o a l r)= .iface (bZ a.tag) (.pointer (some ⟨b,0,none⟩)):=if_neg y0;rw[hv];have t1:=fun u v=>kG u v w;have t2:=fun u v=>gN u v w;have t3:=fun u v=>pB u v w;have t4:=fun u v=>iG u v w;have t5:=fun u v=>iL u v w;have t6:=fun u v=>pR u v w;have HU:Hid _:=uq
 by_cases k10:a.tag=10
 ·obtain⟨k0,k6⟩:=hE (.inr (.inl k10));obtain⟨k4,y8⟩:=y4 k10;obtain⟨u,p,k8⟩:=k0.val Ox;obtain⟨u2,p2,y9⟩:=k4.val Ox;rw[Oh,if_pos ⟨Oa,by rw[k10];rfl⟩]at k5
  have n1:w.cell? ⟨b,1,none⟩=some (.int .i64 a.npos):=by
   obtain⟨cs,hc,hn,_⟩:=aI k1 (n:=10) k10;rw[cell_of_row _ _ _ _ _ _ hc];exact hn.2.1
  have own2:∀ w' a',a'.tag=10->Own w' b a' l r->w'.cell? ⟨b,3,none⟩=some (bCH l)/\w'.cell? ⟨b,4,none⟩=some (bCH r):=by
   intro w' a' j9 ho;obtain⟨cs,hc,_,h3,h4,_⟩:=aI ho (n:=10) j9;exact⟨Og hc h3,Og hc h4⟩
  obtain⟨eT,eR⟩:=aRV (fl:=fl) (b:=b) (o:=o) (l:=l) (r:=r) (S:=S) (k:=2) (.inr ⟨k10,rfl⟩);rw[eT,eR];have y5:Hid _:=own2;have HL:Hid _:=k6;have HR:Hid _:=y8;have HK:Hid _:=k10;have HI:Hid _:=hi;have HB:Hid (H<=b):=z8;have z0:=lS fl l (S++[(2,a.npos)]);rw[List.length_append]at z0;simp only[List.length_cons,List.length_nil]at z0;have z9:Hid (S.length+1+(ps l).length<=1000000):=by rw[Hid];omega
  have g8:Hid ((siR fl l (S++[(2,a.npos)])).length+(ps r).length<=1000000):=by rw[Hid];omega
  rw[show bZ a.tag=329 by rw[k10];rfl];clear hE y4 hC hB hI hw hH y3 uq k1 hv k2 y2 y1 hi k10 own2 k6 y8 eT eR k5 y6 z0 hS z8 j8 j7 y0;go_enter Tryz.func129,Tryz.ntmps129
  go_wp2_with fail
  refine(vK 2 a.npos w h (Oi z9.out)).mono ?_;rintro e W4 ⟨rfl,h4,x4⟩;have o4:=cX HI.out.2.2 x4 F0.body (fun p hp ty hq=>hq) (Oi HK.out);have i4:=IsT.fr x4 (fun t p hp=>absurd hp id) k0 HI.out.1 (fun _ _ _ h=>h);have j4:=IsT.fr x4 (fun t p hp=>absurd hp id) k4 HI.out.2.1 (fun _ _ _ h=>h);obtain⟨h5,x5,o5,⟨q5,c5⟩,z5⟩:=mZ (o:=5) (i:=(S.length:Int)) h4 o4 HB.out (.inr ⟨HK.out,rfl⟩);have i5:=IsT.fr x5 (fun t p hp=>(Po.body t p hp).pos) k0 i4 (Po.out HU.out.own_l);have j5:=IsT.fr x5 (fun t p hp=>(Po.body t p hp).pos) k4 j4 (Po.out HU.out.own_r);have n3:=(y5.out _ {a with site:=(S.length:Int)} HK.out o5).1;have X5:Hid (Fr H (Pt (.node b o a l r)) w (W4.setCell ⟨b,5,none⟩ (.int .i64 (S.length:Int)))):=(x4.mono F0.to).trans ((show Fr H (Po a) W4 _ from x5).mono Po.to);have g6:Hid (Own (W4.setCell ⟨b,5,none⟩ (.int .i64 (S.length:Int))) b {a with site:=(S.length:Int)} l r):=o5;have g7:Hid _:=j5;have h8:=HL.out _ _ h5 i5 (by have:=z9.out;rw[List.length_append];simp only[List.length_cons,List.length_nil];omega);rw[k8]at n3 h8;clear o4 o5 x4 x5 i4 j4 h4 n1 i5 j5 h5;go_upto_region 7 with fail
  generalize W4.setCell ⟨b,5,none⟩ (.int .i64 (S.length:Int))=W5 at*;go_wp2_with fail
  refine h8.mono ?_;rintro e W6 ⟨rfl,h6,i6,x6⟩;have o6:=cX g6.out x6 Pt.body (fun p hp ty hq=>HU.out.own_l p hp hq.2) (by have:=HK.out;show a.tag≠20;omega);have j6:=IsT.fr x6 (fun t p hp=>(Pt.body t p hp).pos) k4 g7.out (Pt.out HU.out.apart);have n4:=(y5.out W6 {a with site:=(S.length:Int)} HK.out o6).2;have h9:=HR.out _ _ h6 j6 g8.out;rw[y9]at n4 h9;have g5:Hid (Own W6 b {a with site:=(S.length:Int)} l r):=o6;clear o6 j6;go_wp2_with fail
  refine h9.mono ?_;rintro e W7 ⟨rfl,h7,i7,x7⟩;go_wp2;go_end0
  have o7:=cX g5.out x7 Pt.body (fun p hp ty hq=>HU.out.own_r p hp hq.2) (by have:=HK.out;show a.tag≠20;omega);have l7:=xR i6 x7 k0 (gO _ _ _) HU.out.apart_;exact⟨rfl,h7,⟨l7,i7,gZ o7 (gO _ _ _) (gO _ _ _)⟩,(X5.out.trans (x6.mono Pt.left)).trans (x7.mono Pt.right)⟩
 have hp:a.tag≠2/\a.tag≠3/\a.tag≠6/\a.tag≠10:=Oa
 have z1:S.length+(ps l).length<=1000000:=Oa
 have g4:(siR fl l S).length+(ps r).length<=1000000:=Oa
 rw[qU hp];have FIN:Hid _:=fun W2 W3 x2 i2 x3 i3=>xY (H:=H) (fl:=fl) (o:=o) (S:=S) (W2:=W2) (W3:=W3) y2 uq y0 hp k1 x2 i2 x3 i3;have RK:Hid _:=fun W2 x2=>gV (H:=H) (W2:=W2) y1 uq hi x2 y0
 by_cases k11:a.tag=11
 ·obtain⟨x,y,z,p,q,rfl,hz,z4,z2,z7,z6⟩:=hI k11;obtain⟨k0,k6⟩:=hC (.inl k11);obtain⟨u,pp,k8⟩:=k0.val Ow;obtain⟨ao,cp,j1⟩:=z4.lstval Ow;obtain⟨ao2,cp2,j0⟩:=z2.lstval Ow;have HP:Hid (GSi 76 H pb nb it vA vF m fl bCH p):=z7;have HQ:Hid (GSi 76 H pb nb it vA vF m fl bCH q):=z6
  have own2:∀ w',Own w' b a l (.node x y z p q)->w'.cell? ⟨b,0,none⟩=some (bCH l)/\w'.cell? ⟨b,1,none⟩=some (bCH p)/\w'.cell? ⟨b,2,none⟩=some (bCH q):=by
   intro w' ho;obtain⟨cs,hc,h0,x',y',z',p',q',e,h1,h2⟩:=aI ho (n:=11) k11;simp only[BT.node.injEq]at e;obtain⟨rfl,rfl,rfl,rfl,rfl⟩:=e;exact⟨Og hc h0,Og hc h1,Og hc h2⟩
  have uq2:=dZ (b:=x) (o:=y) uq.right;have zp:z.tag≠2/\z.tag≠3/\z.tag≠6/\z.tag≠10:=Oa
  have FIN2:Hid _:=fun(w1:World) ho W2 W3 x2 i2 x3 i3=>xY (H:=H) (fl:=fl) (b:=x) (o:=y) (S:=siR fl l S) (W2:=W2) (W3:=W3) (w:=w1) z4 uq2 (by omega:z.tag≠20) zp ho x2 i2 x3 i3;have RK2:Hid _:=fun(w1:World) hi2 W2 x2=>gV (H:=H) (b:=x) (o:=y) (W2:=W2) (w:=w1) z2 uq2 hi2 x2 (by omega:z.tag≠20);have y7:=kI x y z p q;have g3:=lS fl p (siR fl l S);have vb1:(siR fl l S).length+(ps p).length<=1000000:=Oa
  have vb2:(siR fl p (siR fl l S)).length+(ps q).length<=1000000:=Oa
  have y5:Hid _:=own2;have m2:=(own2 w k1).1;have h8:=k6 S w h hi.1 z1;rw[k8]at m2 h8;rw[qU zp];have HT:Hid (a.tag=11):=k11;rw[show bZ a.tag=332 by rw[k11];rfl];clear hE y4 hC hB hI hw hH y3 uq k1 hv k2 y2 y1 hi k10 k11 own2 k6 z7 z6 uq2 zp k5 y7 y6 g3 h k0 hp hS y0;go_enter Tryz.func129,Tryz.ntmps129
  go_wp2_with fail
  refine h8.mono ?_;rintro e W2 ⟨rfl,h2,i2,x2⟩;obtain⟨j2,o2⟩:=RK.out W2 x2;have m3:=(y5.out W2 o2).2.1;have h9:=HP.out _ _ h2 j2.1 vb1;rw[j1]at m3 h9;go_wp2_with fail
  refine h9.mono ?_;rintro e W3 ⟨rfl,h3,i3,x3⟩;obtain⟨j3,z3⟩:=RK2.out W2 j2 W3 x3;have x3':Fr H (Pt (.node x y z p q)) W2 W3:=x3.mono Pt.left;have o3:=cX o2 x3' Pt.body (fun p hp ty hq=>HU.out.own_r p hp hq.2) (Oi HT.out);have m4:=(y5.out W3 o3).2.2;have k7:=HQ.out _ _ h3 j3 vb2;rw[j0]at m4 k7;go_wp2_with fail
  refine k7.mono ?_;rintro e W4 ⟨rfl,h4,i4,x4⟩;go_wp2;go_end0
  obtain⟨g1,g2⟩:=FIN2.out W2 j2.2.2 W3 W4 x3 i3 x4 i4;exact⟨rfl,h4,FIN.out W2 W4 x2 i2 g2 g1⟩
 by_cases k12:a.tag=12
 ·obtain⟨k0,k6⟩:=hC (.inr k12);obtain⟨k4,y8⟩:=hB k12;obtain⟨u,pp,k8⟩:=k0.val Ow;obtain⟨ao,cp,y9⟩:=k4.lstval Ow;have HR:Hid (GSi 76 H pb nb it vA vF m fl bCH r):=y8
  have own2:∀ w',Own w' b a l r->w'.cell? ⟨b,0,none⟩=some (bCH l)/\w'.cell? ⟨b,1,none⟩=some (bCH r):=by
   intro w' ho;obtain⟨cs,hc,h2,h3⟩:=aI ho (n:=12) k12;exact⟨Og hc h2,Og hc h3⟩
  have m2:=(own2 w k1).1;have y5:Hid _:=own2;have h8:=k6 S w h hi.1 z1;rw[k8]at m2 h8;rw[show bZ a.tag=338 by rw[k12];rfl];clear hE y4 hC hB hI hw hH y3 uq k1 hv k2 y2 y1 hi k10 k11 k12 own2 k6 y8 k5 y6 h k0 k4 hp hS y0;go_enter Tryz.func129,Tryz.ntmps129
  go_wp2_with fail
  refine h8.mono ?_;rintro e W2 ⟨rfl,h2,i2,x2⟩;obtain⟨j2,o2⟩:=RK.out W2 x2;have m3:=(y5.out W2 o2).2;have h9:=HR.out _ _ h2 j2 g4;rw[y9]at m3 h9;go_wp2_with fail
  refine h9.mono ?_;rintro e W3 ⟨rfl,h3,i3,x3⟩;go_wp2;go_end0
  exact⟨rfl,h3,FIN.out W2 W3 x2 i2 x3 i3⟩
 have k3:a.tag=9\/a.tag=13\/a.tag=14:=Oa
 have g0:r= .nil:=by
  have:sy=99:=by rcases k3 with h|h|h<;>rw[h]at k2<;>cases k2<;>rfl
  subst this;exact y1.nil_of
 subst g0;obtain⟨k0,k6⟩:=hE Oa;obtain⟨u,pp,k8⟩:=k0.val Ox;have h8:=k6 S w h hi.1 z1;rw[k8]at h8;rcases k3 with k9|k13|k14
 ·have m2:w.cell? ⟨b,3,none⟩=some (bCH l):=by
   obtain⟨cs,hc,_,h3,_⟩:=aI k1 (n:=9) k9;rw[cell_of_row _ _ _ _ _ _ hc];exact h3
  rw[k8]at m2;rw[show bZ a.tag=326 by rw[k9];rfl];clear hE y4 hC hB hI hw hH y3 uq k1 hv k2 y2 y1 hi k9 k10 k11 k12 k6 k5 y6 h k0 hp hS y0;go_enter Tryz.func129,Tryz.ntmps129
  go_wp2_with fail
  refine h8.mono ?_;rintro e W2 ⟨rfl,h2,i2,x2⟩;go_wp2;go_end0
  exact⟨rfl,h2,FIN.out W2 W2 x2 i2 (Fr.refl _ _ _) trivial⟩
 ·have m2:w.cell? ⟨b,0,none⟩=some (bCH l):=by
   obtain⟨cs,hc,h2⟩:=aI k1 (n:=13) k13;rw[cell_of_row _ _ _ _ _ _ hc];exact h2
  rw[k8]at m2;rw[show bZ a.tag=341 by rw[k13];rfl];clear hE y4 hC hB hI hw hH y3 uq k1 hv k2 y2 y1 hi k13 k10 k11 k12 k6 k5 y6 h k0 hp hS y0;go_enter Tryz.func129,Tryz.ntmps129
  go_wp2_with fail
  refine h8.mono ?_;rintro e W2 ⟨rfl,h2,i2,x2⟩;go_wp2;go_end0
  exact⟨rfl,h2,FIN.out W2 W2 x2 i2 (Fr.refl _ _ _) trivial⟩
 ·have m2:w.cell? ⟨b,0,none⟩=some (bCH l):=by
   obtain⟨cs,hc,h2⟩:=aI k1 (n:=14) k14;rw[cell_of_row _ _ _ _ _ _ hc];exact h2
  rw[k8]at m2;rw[show bZ a.tag=344 by rw[k14];rfl];clear hE y4 hC hB hI hw hH y3 uq k1 hv k2 y2 y1 hi k14 k10 k11 k12 k6 k5 y6 h k0 hp hS y0;go_enter Tryz.func129,Tryz.ntmps129
  go_wp2_with fail
  refine h8.mono ?_;rintro e W2 ⟨rfl,h2,i2,x2⟩;go_wp2;go_end0
  exact⟨rfl,h2,FIN.out W2 W2 x2 i2 (Fr.refl _ _ _) trivial⟩
theorem aF5{l:Tr}(h0:Ws 4 l)(k6:(ps l).Nodup)(hA:fE (fun e=>Ws 2 e/\GSi 129 H pb nb it vA vF m fl bCH e) (bCF l)):GSi 76 H pb nb it vA vF m fl bCH l:=by
 intro S w h hi hS;obtain⟨ao,cp,k3⟩:=h0.lstval Ow;have hlen:=fB Ow h0;have h7:=jU Ow h0;have h5:(ps (bCF l)).Nodup:=by rw[<-h7];exact k6
 have h4:=h0.elems Ow
 have iel:IsT w (bCF l):=by
  cases l with
  |nil=>trivial
  |node=>exact hi.1
 rw[h7]at hS;have y6:Hid ((ps (bCF l)).Nodup):=h5;have y5:Hid (Ws 14 (bCF l)):=h4;have y4:Hid (Ws 4 l):=h0;have y7:Hid (IsT w l):=hi;have L0:=LpS.start (L:=bCF l) h iel
 have FIN:Hid (∀ wr,Fr H (Pt (bCF l)) w wr->SiW H pb nb it vA vF m fl (siR fl (bCF l) S) wr->IsT wr (siT fl (bCF l) S)->aA7 H pb nb it vA vF m fl (Pt l) (siT fl l S) (siR fl l S) w (.returned (.tuple #[])) wr):=by
  intro wr hx hr ir;have k2:Fr H (Pt l) w wr:=hx.mono fun t p hp=>⟨hp.1,by rw[h7];exact hp.2⟩;exact⟨rfl,by rw[aC3 Ow h0];exact hr,aG2 Ow h0 hi k2 Pt.body ir,k2⟩
 rw[k3];clear h7 h5 h4 iel h0 k6 hi h;go_enter Tryz.func76,Tryz.ntmps76
 go_wp2_with fail
 go_loopg [8] (aD l) (fun m' v wr=>∃ (i:Nat) (si:Sl),v= .int .i64 i/\i<=aD l/\aD l<=i+m'/\si.length+(ps (aL i (bCF l))).length<=1000000/\LpS H pb nb it vA vF m fl (bCF l) S w i si wr)
 case atStart=>exact⟨0,S,rfl,Qe _,Oa,hS,L0⟩
 case round=>
  clear L0;obtain⟨i,si,rfl,hle,hm,k4,LP⟩:=hrel;have k1:Hid _:=LP
  by_cases y2:i < aD l
  ·have h8:(i:Int) < (aD l:Int):=Oa
   obtain⟨b2,o2,a2,e2,r2,hd,k0⟩:=dK i (bCF l) (by rw[<-aT];exact y2);have k8:=fE.drop i _ hA;rw[hd]at k8 k4;obtain⟨y3,⟨hE,hG⟩,_⟩:=k8
   obtain⟨gg,rfl,h6⟩:=gQ Ow y4.out y7.out LP.fr Pt.body k3 hd (by
    cases e2 with
    |nil=>exact absurd hE (by unfold Ws bK;omega)
    |node b o a l r=>
     have:=jR hE;exact⟨b,o,a,l,r,rfl,Oa,Oa⟩)
   obtain⟨u,p,y0⟩:=hE.val Ov;have h9:=LP.rest;rw[hd]at h9;have k5:=kI b2 o2 a2 e2 r2;rw[Oh,if_neg (by rw[y3];intro h;exact absurd h.2 Ob)]at k5;have y1:=lS fl e2 si;have k9:Hid ((siR fl e2 si).length+(ps (aL (i+1) (bCF l))).length<=1000000):=by rw[Hid,k0];omega
   have h1:=hG si wr LP.rs h9.1 Oa;rw[y0]at h6 h1;have h2:Hid _:=fun w3=>k1.out.step (w3:=w3) Ow y5.out y6.out hd k0;clear hG hE hd k0 h9 LP k5 y1 k4;go_wp2_with fail
   refine h1.mono ?_;rintro e W3 ⟨rfl,h3,i3,x3⟩;obtain⟨m',rfl⟩:∃ m',gk=m'+1:=⟨gk - 1,Oa⟩
   have fin:∃ (i':Nat) (si:Sl),Value.int .i64 ((i:Int)+1)= .int .i64 i'/\i'<=aD l/\aD l<=i'+m'/\si.length+(ps (aL i' (bCF l))).length<=1000000/\LpS H pb nb it vA vF m fl (bCF l) S w i' si W3:=
    ⟨i+1,_,Od,Oa,Oa,k9.out,h2.out W3 h3 i3 x3⟩
   clear h2 k1 h3 i3 x3 k9;go_wp2;go_roundg m'
   case rel=>exact fin
   case measure=>omega
  ·have h8: ¬(i:Int) < (aD l:Int):=Oa
   have k7:i=aO (bCF l):=by rw[<-aT];omega
   have fin:aA7 H pb nb it vA vF m fl (Pt l) (siT fl l S) (siR fl l S) w (.returned (.tuple #[])) wr:=by
    subst k7;obtain⟨e1,e2⟩:=LP.fin;have hr:=LP.rs;rw[e1]at hr;exact FIN.out wr LP.fr hr e2
   clear k7 LP k1 FIN;go_wp2;go_end0
   exact fin
theorem aMV:∀ (n:Nat) (t:Tr),szT t<=n->aUI H t->(ps t).Nodup->Cv fl.length t->
 (Ws 0 t->GSi 197 H pb nb it vA vF m fl bCH t)/\(Ws 1 t->GSi 199 H pb nb it vA vF m fl bCH t)/\(Ws 2 t->GSi 129 H pb nb it vA vF m fl bCH t)/\(Ws 4 t->GSi 76 H pb nb it vA vF m fl bCH t)/\
 (Ws 13 t->fE (fun e=>Ws 0 e/\GSi 197 H pb nb it vA vF m fl bCH e) t)/\(Ws 14 t->fE (fun e=>Ws 2 e/\GSi 129 H pb nb it vA vF m fl bCH e) t):=by
 intro n
 induction n with
 |zero=>intro t h;cases t<;>simp[szT]at h
 |succ n ih=>
  intro t k2 hF h3 k3;cases t with
  |nil=>
   refine⟨fun h=>absurd h (by unfold Ws bK;omega),fun h=>absurd h (by unfold Ws bK;omega),fun h=>absurd h (by unfold Ws bK;omega),fun h=>?_,fun _=>trivial,fun _=>trivial⟩;exact aF5 h h3 trivial
  |node b o a l r=>
   have hl:szT l<=n/\szT r<=n:=by simp only[szT]at k2;omega
   obtain⟨Fl,Fr_⟩:=xD hF;have uq:=dZ h3;obtain⟨cl,cr,c3⟩:=k3.mk;have IL:=ih l hl.1 Fl uq.left cl;have IR:=ih r hl.2 Fr_ uq.right cr
   have elemsOf:Ws 3 l->fE (fun e=>Ws 0 e/\GSi 197 H pb nb it vA vF m fl bCH e) (bCF l):=by
    intro hw;rcases hw.lst (.inl rfl)with rfl|⟨b2,o2,a2,l2,rfl,k4,h5⟩
    ·trivial
    ·have h6:szT l2<=n:=by have:=hl.1;simp only[szT]at this;omega
     exact(ih l2 h6 Fl.1 (dZ uq.left).left cl.mk.1).2.2.2.2.1 h5
   refine⟨fun hw=>?_,fun hw=>?_,fun hw=>?_,fun hw=>?_,fun hw=>?_,fun hw=>?_⟩
   ·obtain⟨k1,x,y,h0,h2,h1⟩:=hw.parts;refine aQX hw hF h3 (fun hk=>?_) (fun hk=>?_) (fun hk=>?_)
    ·have:x=0:=by rcases hk with h|h|h<;>rw[h]at h0<;>cases h0<;>rfl
     subst this;exact⟨h2,IL.1 h2⟩
    ·rw[hk]at h0;cases h0;exact aKW hk hF h3 ⟨h2,IL.1 h2⟩ ⟨h1,IR.1 h1⟩
    ·have:x=3:=by rw[hk]at h0;cases h0;rfl
     subst this;exact aR8 hk hw hF h3 (c3 hk) (elemsOf h2)
   ·obtain⟨k1,x,y,h0,h2,h1⟩:=hw.parts;refine aR5 hw h3 (fun hk=>?_) (fun hk=>?_)
    ·rw[hk]at h0;cases h0;exact⟨h2,h1,IL.1 h2,IR.1 h1⟩
    ·rw[hk]at h0;cases h0;exact⟨h2,h1,IL.2.1 h2,IR.2.1 h1⟩
   ·obtain⟨k1,x,y,h0,h2,h1⟩:=hw.parts;refine aPQ hw hF h3 (fun hk=>?_) (fun hk=>?_) (fun hk=>?_) (fun hk=>?_) (fun hk=>?_)
    ·have:x=0:=by rcases hk with h|h|h|h<;>rw[h]at h0<;>cases h0<;>rfl
     subst this;exact⟨h2,IL.1 h2⟩
    ·rw[hk]at h0;cases h0;exact⟨h1,IR.1 h1⟩
    ·have:x=1:=by rcases hk with h|h<;>rw[h]at h0<;>cases h0<;>rfl
     subst this;exact⟨h2,IL.2.1 h2⟩
    ·rw[hk]at h0;cases h0;exact⟨h1,IR.2.2.2.1 h1⟩
    ·rw[hk]at h0;cases h0;cases r with
     |nil=>exact absurd h1 (by unfold Ws bK;omega)
     |node x y z p q=>
      obtain⟨_,sp,sq,h7,k0,h9⟩:=h1.parts
      have hz:z.tag=18:=by
       by_cases h:z.tag=18
       ·exact h
       ·exfalso;simp[sig,h]at h7
      rw[hz]at h7;cases h7;have hs:szT p<=n/\szT q<=n:=by have:=hl.2;simp only[szT]at this;omega
      have u2:=dZ uq.right;exact⟨x,y,z,p,q,rfl,hz,k0,h9,(ih p hs.1 Fr_.1 u2.left cr.mk.1).2.2.2.1 k0,(ih q hs.2 Fr_.2.1 u2.right cr.mk.2.1).2.2.2.1 h9⟩
   ·obtain⟨b2,o2,a2,l2,e,k4,h5⟩:=(hw.lst Ow).resolve_left (by intro h;cases h);obtain⟨rfl,rfl,rfl,rfl,rfl⟩:=e;exact aF5 hw h3 (IL.2.2.2.2.2 h5)
   ·obtain⟨h8,h4,h1⟩:=aY Ox hw;exact⟨h8,⟨h4,IL.1 h4⟩,IR.2.2.2.2.1 h1⟩
   ·obtain⟨h8,h4,h1⟩:=aY Ow hw;exact⟨h8,⟨h4,IL.2.2.1 h4⟩,IR.2.2.2.2.2 h1⟩
end
section
open Go.RowKit Go.Lib Go.Deep Go.ChangeMaps Go.MapKept
variable {H pb nb:Nat} {it vA vF:Value} {m:Int} {fl:List Tr}
def wV(s:Nat):Bool:=s==5||s==6||s==15||s==16||s==20||s==21||s==22||s==99
def aHB(o:Option (Nat × Nat)):Bool:=match o with
 |none=>true
 |some (x,y)=>wV x&&wV y
theorem aDE:∀ s < 24,∀ n < 21,wV s=true->aHB (sig s n)=true/\((n==2||n==3||n==6||n==10)=true->(sig s n).isNone=true):=Ob
theorem yC{s n x y:Nat}(h:sig s n=some (x,y))(hs:wV s=true):(n≠2/\n≠3/\n≠6/\n≠10)/\wV x=true/\wV y=true:=by
 by_cases hp:s < 24
 ·by_cases hn:n < 21
  ·obtain⟨h1,h2⟩:=aDE s hp n hn hs;rw[h]at h1 h2;refine⟨⟨fun e=>?_,fun e=>?_,fun e=>?_,fun e=>?_⟩,by simpa[aHB]using h1⟩
   all_goals
    rw[e]at h2;cases h2 Ob
  ·rw[aHE Oa]at h;cases h
 ·rw[aBT Oa]at h;cases h
theorem nI{b o:Nat}{a:Nd}{l r:Tr}{S:Sl}(hp:a.tag≠2/\a.tag≠3/\a.tag≠6/\a.tag≠10):siT fl (.node b o a l r) S= .node b o a (siT fl l S) (siT fl r (siR fl l S)):=by
 show BT.node b o {a with site:=gI fl a S (siR fl l (bO fl a S))} (siT fl l (bO fl a S)) (siT fl r (dE a (siR fl l (bO fl a S))))=_;rw[(kV (fl:=fl) (S:=S) (S1:=S) hp).1,(kV (fl:=fl) (S:=S) (S1:=siR fl l S) hp).2.1,(kV (fl:=fl) (S:=S) (S1:=siR fl l S) hp).2.2]
theorem aNA:∀ (t:Tr) (s:Nat),Ws s t->wV s=true->∀ S,siR fl t S=S/\siT fl t S=t:=by
 intro t
 induction t with
 |nil=>intro s _ _ S;exact⟨rfl,rfl⟩
 |node b o a l r ihl ihr=>
  intro s hw hs S;obtain⟨_,x,y,h0,hl,hr⟩:=hw.parts;obtain⟨hp,kx,ky⟩:=yC h0 hs;rw[qU hp,nI hp,(ihl x hl kx S).1,(ihl x hl kx S).2,(ihr y hr ky S).1,(ihr y hr ky S).2];exact⟨rfl,rfl⟩
def aF(k:Nat):Tr->List Tr
 | .nil=>[]
 | .node _ _ _ e r=>if bN e=k then e::aF k r else aF k r
theorem vV(k:Nat)(L:Tr):nH k L=(aF k L).map cB:=by
 induction L with
 |nil=>rfl
 |node b o a e r _ ih=>
  show(if bN e=k then _ else _)=(if bN e=k then _ else _:List Tr).map cB
  split
  ·rw[ih];rfl
  ·exact ih
theorem xT{b o:Nat}{a:Nd}{l:Tr}{x y:Nat}{z:Nd}{p q:Tr}{S:Sl}(ht:a.tag=17)(hz:z.tag=18)(hl:Ws 6 l)(hp:Ws 5 p):siR fl (.node b o a l (.node x y z p q)) S=siR fl q S/\siT fl (.node b o a l (.node x y z p q)) S= .node b o a l (.node x y z p (siT fl q S)):=by
 have h1:=fun S=>aNA (fl:=fl) l 6 hl rfl S;have h2:=fun S=>aNA (fl:=fl) p 5 hp rfl S;rw[qU Oa,nI Oa,qU Oa,nI Oa,(h1 S).1,(h1 S).2,(h2 S).1,(h2 S).2];exact⟨rfl,rfl⟩
theorem aK9{b o:Nat}{a:Nd}{l:Tr}{x y:Nat}{z:Nd}{p q:Tr}{S:Sl}{w w':World}(ht:a.tag=17)(hz:z.tag=18)(hl:Ws 6 l)(hp:Ws 5 p)(h1:(ps (.node b o a l (.node x y z p q))).Nodup)(hi:IsT w (.node b o a l (.node x y z p q)))(hx:Fr H (Pt q) w w')(hq:IsT w' (siT fl q S)):
 IsT w' (siT fl (.node b o a l (.node x y z p q)) S)/\Fr H (Pt (.node b o a l (.node x y z p q))) w w':=by
 have u1:=dZ h1;have u2:=dZ (b:=x) (o:=y) u1.right;rw[(xT ht hz hl hp).2];have h0:Fr H (Pt (.node x y z p q)) w w':=hx.mono Pt.right;refine⟨⟨IsT.fr h0 (fun t p hp=>(Pt.body t p hp).pos) hl hi.1 (Pt.out u1.apart_),⟨IsT.fr hx (fun t p hp=>(Pt.body t p hp).pos) hp hi.2.1.1 (Pt.out u2.apart_),hq,?_⟩,?_⟩,h0.mono Pt.right⟩
 ·unfold Own;rw[hz];trivial
 ·have o2:=cX hi.2.2 h0 Pt.body (fun p hp ty hq=>u1.own_r p hp hq.2) Oa;exact gZ o2 (Sh.refl _) ⟨rfl,rfl,rfl,rfl,rfl,rfl,rfl,rfl,fun _=>rfl,fun _=>rfl,Sh.refl _,gO _ _ _⟩
theorem aK6{e:Tr}(h:Ws 7 e)(hk:bN e≠17):(∀ S,siR fl e S=S/\siT fl e S=e):=by
 obtain⟨b,o,a,l,r,rfl,ht⟩:=iB h;have h1:=ht.resolve_right hk;obtain⟨_,x,y,h0,hl,hr⟩:=h.parts;rw[h1]at h0;cases h0;obtain rfl:=hl.nil_of;obtain rfl:=hr.nil_of;intro S;rw[qU Oa,nI Oa];exact⟨rfl,rfl⟩
variable {L:Tr} {S1:Sl} {W1 wr:World}
theorem LpS.skip(hw:Ws 18 L)(h3:(ps L).Nodup){si:Sl}:∀ (n i:Nat),aO L - i=n->i<=aO L->LpS H pb nb it vA vF m fl L S1 W1 i si wr->si.length+(ps (aL i L)).length<=1000000->
 ∃ i',i'<=aO L/\aF 17 (aL i' L)=aF 17 (aL i L)/\LpS H pb nb it vA vF m fl L S1 W1 i' si wr/\si.length+(ps (aL i' L)).length<=1000000/\(i'=aO L\/∃ b o a e r,aL i' L= .node b o a e r/\aL (i'+1) L=r/\i' < aO L/\bN e=17):=by
 intro n
 induction n with
 |zero=>intro i hn hi h hb;exact⟨i,hi,rfl,h,hb,.inl Oa⟩
 |succ n ih=>
  intro i hn hi h hb;obtain⟨b,o,a,e,r,hd,h0⟩:=dK i L Oa
  by_cases hk:bN e=17
  ·exact⟨i,hi,rfl,h,hb,.inr ⟨b,o,a,e,r,hd,h0,Oa,hk⟩⟩
  ·have h1:=eX Ot i _ hw;rw[hd]at h1;obtain⟨h15,h2,_⟩:=aY Ot h1;obtain⟨e1,e2⟩:=aK6 (fl:=fl) h2 hk si;have hr:=h.rest;rw[hd]at hr;have st:=h.step (w3:=wr) Ot hw h3 hd h0 (by rw[e1];exact h.rs) (by rw[e2];exact hr.1) (Fr.refl _ _ _);rw[e1]at st;have hpl:=kI b o a e r;obtain⟨i',k1,k2,k3⟩:=ih (i+1) Oa Oa st (by rw[h0];rw[hd]at hb;omega);refine⟨i',k1,?_,k3⟩;rw[k2,h0,hd];exact(if_neg hk).symm
theorem aAG.get{w:World}(h:aAG H vF fl w){j:Nat}{e:Tr}(hj:fl[j]?=some e):∃ g cp b o a l x y z p q,vF= .slice (some ⟨g,0,none⟩) fl.length cp/\w.cell? ⟨g,j,none⟩=some (.pointer (some ⟨b,0,none⟩))/\e= .node b o a l (.node x y z p q)/\FnW w b a l p q:=by
 have hjl:j < fl.length:=by
  rcases Qk j fl.length with h|h
  ·exact h
  ·rw[List.getElem?_eq_none h]at hj;cases hj
 obtain⟨b,o,a,l,x,y,z,p,q,e1,hf,_⟩:=h.own e (Qi hj)
 obtain⟨g,cp,hv⟩:∃ g cp,vF= .slice (some ⟨g,0,none⟩) fl.length cp:=by
  obtain⟨ao,cp,e1,e2⟩:=eQ h.row;rcases e2 with e2|⟨g,e2⟩
  ·omega
  ·exact⟨g,cp,by rw[e1,e2]⟩
 have hc:=h.row;rw[hv]at hc;have h0:=hc.cellAt j Oa;refine⟨g,cp,b,o,a,l,x,y,z,p,q,hv,?_,e1,hf⟩;rw[h0,List.getElem?_map,hj,e1];rfl
theorem aQU:∀ (L:Tr),Ws 18 L->∀ e∈aF 17 L,∀ w,IsT w L->∃ b o a l x y z p q,e= .node b o a l (.node x y z p q)/\FnW w b a l p q/\Ws 5 p/\Ws 4 q:=by
 intro L
 induction L with
 |nil=>intro _ e he;cases he
 |node b o a e0 r _ ih=>
  intro hw e he w hi;obtain⟨_,h1,h0⟩:=aY Ot hw;have he:e∈(if bN e0=17 then e0::aF 17 r else aF 17 r):=he
  by_cases hk:bN e0=17
  ·rw[if_pos hk]at he;rcases List.mem_cons.1 he with rfl|he
   ·obtain⟨b,o,a,l,r,rfl,_⟩:=iB h1;obtain⟨hl,x,y,z,p,q,rfl,hz,hp,hq⟩:=oO h1 hk;refine⟨b,o,a,l,x,y,z,p,q,rfl,?_,hp,hq⟩;obtain⟨cs,hc,hn,h3,x',y',z',p',q',e,h4,h5,h6⟩:=aI hi.1.2.2 (n:=17) hk;obtain⟨rfl,rfl,rfl,rfl,rfl⟩:=e;exact⟨cs,hc,hn,h3,h4,h5,h6⟩
   ·exact ih h0 e he w hi.2.1
  ·rw[if_neg hk]at he;exact ih h0 e he w hi.2.1
theorem aR4:∀ (i:Nat) (L:Tr) {n:Nat},Cv n L->Cv n (aL i L):=by
 intro i
 induction i with
 |zero=>intro L n h;exact h
 |succ i ih=>
  intro L n h;cases L with
  |nil=>exact h
  |node b o a l r=>exact ih r h.mk.2.1
def aTJ(H pb:Nat)(it vA vF:Value)(m:Int)(fl:List Tr)(T:Tr)(w w':World):Prop:=∃ nb,SiW H pb nb it vA vF m fl (siR fl T []) w'/\IsT w' (siT fl T [])/\Fr H (Pt T) w w'
def aU8(H pb:Nat)(it vA vF:Value)(m:Int)(fl:List Tr)(T:Tr)(w:World):Ending->World->Prop:=fun e w'=>e= .returned (.tuple #[])/\aTJ H pb it vA vF m fl T w w'
theorem aH2{T:Tr}(hw:Ws 8 T)(hF:aUI H T)(z8:(ps T).Nodup)(y8:Cv (aF 17 (bCF T)).length T)(z7:H<=pb)(w:World)(hH:H<=w.heap.size)(hi:IsT w T)(hp:w.heap[pb]?=some (.cells (qM it vA vF m (.slice none 0 0)) 111 (0,0)))(h5:w.ownsRow H 106 1 vF (aF 17 (bCF T)).length ((aF 17 (bCF T)).map cB))(g0:(ps T).length<=900000):
 Calls Tryz.prog 44 #[.pointer (some ⟨pb,0,none⟩)] w (aU8 H pb it vA vF m (aF 17 (bCF T)) T w):=by
 obtain⟨fl,k8⟩:∃ fl,fl=aF 17 (bCF T):=⟨_,rfl⟩;rw[<-k8]at y8 h5 ⊢;have hL:=hw.elems Ot;have h6:=jU Ot hw;have k6:(ps (bCF T)).Nodup:=by rw[<-h6];exact z8
 have k7:=fB Ot hw;have g1:=(Oo hp)
 have y0:Cv fl.length (bCF T):=by
  cases T with
  |nil=>trivial
  |node b o a l r=>exact y8.mk.1
 have j5:aUI H (bCF T):=by
  cases T with
  |nil=>trivial
  |node b o a l r=>exact hF.1
 have iel:∀ w,IsT w T->IsT w (bCF T):=fun w hi=>by
  cases T with
  |nil=>trivial
  |node=>exact hi.1
 have hfll:fl.length<=10000:=by
  rw[aT]at k7
  have:∀ L:Tr,(aF 17 L).length<=aO L:=by
   intro L
   induction L with
   |nil=>exact Qc _
   |node b o a e r _ ih=>
    show(if bN e=17 then e::aF 17 r else aF 17 r).length<=aO r+1
    split
    ·simp only[List.length_cons];omega
    ·omega
  have:=this (bCF T);rw[k8];omega
 obtain⟨W1,y1⟩:∃ W1,W1=(w.setCell ⟨pb,4,none⟩ (.slice none 0 0)).alloc (.cells #[.pointer (some ⟨pb,0,none⟩)] 156):=⟨_,rfl⟩;have zs:(w.setCell ⟨pb,4,none⟩ (.slice none 0 0)).heap.size=w.heap.size:=by simp[World.setCell]
 have f1:Fr H F0 w W1:=by
  rw[y1];refine((Fr.refl H F0 w).set z7 (fun c t ht e=>?_) _ _).alloc _ (by rw[zs];exact hH);rw[hp]at e;simp only[Option.some.injEq,Obj.cells.injEq]at e;rw[<-e.2.1]at ht;exact absurd ht (by unfold cK aK;decide)
 have i1:IsT W1 T:=IsT.fr f1 (fun t p hp=>absurd hp id) hw hi (fun _ _ _ h=>h)
 have y4:W1.heap[pb]?=some (.cells (qM it vA vF m (.slice none 0 0)) 111 (0,0)):=by
  rw[y1];refine(On (by rw[zs];exact g1)).trans ?_;have:=aM (o:=4) (.slice none 0 0) hp;exact this
 have s1:SiW H pb w.heap.size it vA vF m fl [] W1:=by
  refine⟨?_,⟨.slice none 0 0,y4,World.ownsRow_nil _ _ _ _⟩,⟨kJ h5 f1 Oy (fun t p hp=>absurd hp id),fun e he=>?_⟩,hH,z7⟩
  ·rw[y1,<-zs];exact Qb _ _
  ·rw[k8]at he;exact aQU (bCF T) hL e he W1 (iel _ i1)
 have L0:=LpS.start (L:=bCF T) s1 (iel _ i1);have c4:w.cell? ⟨pb,4,none⟩=some (.slice none 0 0):=Og hp rfl
 have z4:w.frozen? ⟨pb,4,none⟩=false:=by simp[World.frozen?,hp]
 have c2:W1.cell? ⟨pb,2,none⟩=some vF:=Og y4 rfl
 obtain⟨ao,cp,y3,_⟩:=eQ h5
 have FIN:Hid (∀ wr,Fr H (Pt (bCF T)) W1 wr->SiW H pb w.heap.size it vA vF m fl (siR fl (bCF T) []) wr->IsT wr (siT fl (bCF T) [])->
  aTJ H pb it vA vF m fl T w wr):=by
  intro wr hx hr ir;have z3:Fr H (Pt T) W1 wr:=hx.mono fun t p hp=>⟨hp.1,by rw[h6];exact hp.2⟩;exact⟨_,by rw[aC3 Ot hw];exact hr,aG2 Ot hw i1 z3 Pt.body ir,(f1.mono F0.to).trans z3⟩
 have z1:Hid ((ps (bCF T)).Nodup):=k6;have z0:Hid (Ws 18 (bCF T)):=hL;have g9:Hid (Cv fl.length (bCF T)):=y0;have g8:Hid (aUI H (bCF T)):=j5;have g5:([]:Sl).length+(ps (bCF T)).length<=1000000:=by rw[<-h6];simp only[List.length_nil];omega
 have g2:aF 17 (aL 0 (bCF T))=fl.drop 0:=by rw[k8];rfl
 rw[y3]at c2;have g7:Hid (vF= .slice ao fl.length cp):=y3;clear y8 z8 hF hw hL h6 k6 k7 y0 j5 y4 s1 i1 f1 hi iel h5 g0 zs k8 y3;go_enter Tryz.func44,Tryz.ntmps44
 go_upto_region 2 with fail
 rw[<-y1];clear y1 hp c4 z4;go_wp2_with fail
 go_loopg [15] fl.length (fun m' v wr=>∃ (j i:Nat) (si:Sl),v= .int .i64 j/\j<=fl.length/\fl.length<=j+m'/\i<=aO (bCF T)/\aF 17 (aL i (bCF T))=fl.drop j/\si.length+(ps (aL i (bCF T))).length<=1000000/\LpS H pb w.heap.size it vA vF m fl (bCF T) [] W1 i si wr)
 case atStart=>exact⟨0,0,[],rfl,Qe _,Oa,Qe _,g2,g5,L0⟩
 case round=>
  clear L0;obtain⟨j,i0,si,rfl,hle,hm,j1,hk,hb,LP0⟩:=hrel;obtain⟨i,hi1,h7,LP,j3,h2⟩:=LP0.skip z0.out z1.out _ i0 rfl j1 hb;rw[hk]at h7;clear hk hb LP0 j1;have z2:Hid _:=LP
  by_cases hlt:j < fl.length
  ·have y5:(j:Int) < (fl.length:Int):=Oa
   obtain⟨b2,o2,a2,e2,r2,hd,k9,g3,h0⟩:=h2.resolve_left (fun e=>by
    rw[e,eS]at h7;have:=congrArg List.length h7;rw[List.length_drop]at this;simp only[aF,List.length_nil]at this;omega)
   have y6:fl[j]?=some e2/\aF 17 r2=fl.drop (j+1):=by
    rw[hd]at h7;have z9:e2::aF 17 r2=fl.drop j:=by rw[<-h7];exact(if_pos h0).symm
    constructor
    ·have:=congrArg (fun l=>l[0]?) z9;simp only[List.getElem?_cons_zero,List.getElem?_drop,Nat.add_zero]at this;exact this.symm
    ·have:=congrArg List.tail z9;simpa[List.tail_drop]using this
   obtain⟨h9,h8⟩:=y6;obtain⟨g,cp2,b,o,a,l,x,y,z,p,q,h4,hcell,g4,j2⟩:=LP.rs.fns.get h9;subst g4;have y2:=eX Ot i _ z0.out;have uq:=lT i _ z1.out;have y9:=aR4 i _ g9.out;have y7:=lO i _ g8.out;have h1:=LP.rest;rw[hd]at y2 uq y9 y7 h1 j3;obtain⟨j6,z5,_⟩:=aY Ot y2;obtain⟨hl,x',y',z',p',q',e,hz,hp,hq⟩:=oO z5 h0;simp only[BT.node.injEq]at e;obtain⟨rfl,rfl,rfl,rfl,rfl⟩:=e;have uqe:(ps (.node b o a l (.node x y z p q))).Nodup:=(dZ uq).left;have u2:=dZ (dZ uqe).right;have j4:=(aMV (H:=H) (pb:=pb) (nb:=w.heap.size) (it:=it) (vA:=vA) (vF:=vF) (m:=m) (fl:=fl) (szT q) q Ol y7.1.2.1.2.1 u2.right y9.mk.1.mk.2.1.mk.2.1).2.2.2.1 hq;have e1:=kI b2 o2 a2 (.node b o a l (.node x y z p q)) r2;rw[Oh,if_neg (by rw[j6];intro h;exact absurd h.2 Ob)]at e1;have e2:=kI b o a l (.node x y z p q);have e3:=kI x y z p q;have k0:=j4 si wr LP.rs h1.1.2.1.2.1 Oa;have j9:=lS fl q si;have j8:Hid ((siR fl q si).length+(ps (aL (i+1) (bCF T))).length<=1000000):=by rw[Hid,k9];omega
   have k4:Hid (∀ w3,SiW H pb w.heap.size it vA vF m fl (siR fl q si) w3->IsT w3 (siT fl q si)->Fr H (Pt q) wr w3->LpS H pb w.heap.size it vA vF m fl (bCF T) [] W1 (i+1) (siR fl q si) w3):=fun w3 k1 k2 k3=>by
    obtain⟨d1,d2⟩:=aK9 (fl:=fl) h0 hz hl hp uqe h1.1 k3 k2;have st:=z2.out.step (w3:=w3) Ot z0.out z1.out hd k9 (by rw[(xT h0 hz hl hp).1];exact k1) d1 d2;rw[(xT h0 hz hl hp).1]at st;exact st
   obtain⟨ao3,cp3,z6⟩:=hq.lstval Ow;obtain⟨_,_,_,_,k5,_,_⟩:=j2.cells;rw[z6]at k5 k0;have j7:Hid (aF 17 (aL (i+1) (bCF T))=fl.drop (j+1)):=by rw[Hid,k9];exact h8
   have g6:ao=some ⟨g,0,none⟩:=by
    rw[g7.out]at h4;simp only[Value.slice.injEq]at h4;exact h4.1
   subst g6;clear j4 hd k9 LP j9 j3 e1 e2 e3 h1 y7 y9 uqe u2 uq y2 z5 hl hp hq hz h9 h8 h7 h0 h2 z6 j2 h4 j6;go_wp2_with fail
   refine k0.mono ?_;rintro e W3 ⟨rfl,h3,i3,x3⟩;obtain⟨m',rfl⟩:∃ m',gk=m'+1:=⟨gk - 1,Oa⟩
   have fin:∃ (j' i':Nat) (si:Sl),Value.int .i64 ((j:Int)+1)= .int .i64 j'/\j'<=fl.length/\fl.length<=j'+m'/\i'<=aO (bCF T)/\aF 17 (aL i' (bCF T))=fl.drop j'/\si.length+(ps (aL i' (bCF T))).length<=1000000/\LpS H pb w.heap.size it vA vF m fl (bCF T) [] W1 i' si W3:=
    ⟨j+1,i+1,_,Od,Oa,Oa,Oa,j7.out,j8.out,k4.out W3 h3 i3 x3⟩
   clear k4 z2 h3 i3 x3 j8 j7;go_wp2;go_roundg m'
   case rel=>exact fin
   case measure=>omega
  ·have y5: ¬(j:Int) < (fl.length:Int):=Oa
   have j0:i=aO (bCF T):=by
    rcases h2 with h|⟨b2,o2,a2,e2,r2,hd,k9,g3,h0⟩
    ·exact h
    ·exfalso;rw[hd,List.drop_eq_nil_of_le Oa]at h7;have:(if bN e2=17 then e2::aF 17 r2 else aF 17 r2)=[]:=h7;rw[if_pos h0]at this;cases this
   have fin:aTJ H pb it vA vF m fl T w wr:=by
    subst j0;obtain⟨e1,e2⟩:=LP.fin;have hr:=LP.rs;rw[e1]at hr;exact FIN.out wr LP.fr hr e2
   clear j0 LP z2 FIN h2 h7;go_wp2;go_end0
   exact⟨rfl,fin⟩
end
section
open Go.RowKit Go.Lib
structure Wd(c:Cut):Prop where
 lt:∀ t∈c.words,0<=t.pos/\t.pos < c.start
 up:(c.words.map Tok.pos).Pairwise (·< ·)
 text:∀ t∈c.words,t.text.size<=c.text.size
 vals:∀ t∈c.words,0<=t.value/\t.value<=999999999
theorem aCD(s:ByteArray)(a b:Nat):(s.extract a b).size<=s.size:=by
 rw[ByteArray.size_extract];omega
theorem aCC{c:Cut}{p:Nat}(h:vL c p):(c.finish p).words=c.words\/(c.mode≠0/\∃ k v t,(c.finish p).words=c.words++[⟨k,c.start,t,v⟩]/\t.size<=c.text.size/\0<=v/\v<=999999999):=by
 unfold Cut.finish
 by_cases h2:c.mode=2
 ·rw[if_pos h2];unfold Cut.named Cut.push;have:=c.fail_text 1 c.start
  split
  ·exact .inl this.2.1
  ·split
   ·exact .inr ⟨Oa,_,_,_,rfl,Qe _,Oa,Oa⟩
   ·exact .inr ⟨Oa,_,_,_,rfl,aCD _ _ _,Oa,Oa⟩
 rw[if_neg h2]
 by_cases h3:c.mode=3
 ·rw[if_pos h3];unfold Cut.number Cut.push;have:=c.fail_text 3 c.start;have hr:=qZ _ (h.digits h3)
  split
  ·exact .inl this.2.1
  ·exact .inr ⟨Oa,_,_,_,rfl,Qe _,hr.1,Oa⟩
 rw[if_neg h3]
 by_cases h4:c.mode=4
 ·rw[if_pos h4];unfold Cut.sign Cut.push;have:=c.fail_text 1 c.start
  split
  ·exact .inr ⟨Oa,_,_,_,rfl,Qe _,Oa,Oa⟩
  ·exact .inl this.2.1
 rw[if_neg h4];exact .inl rfl
theorem aB7{c:Cut}{p:Nat}(hf:vL c p)(h:Wd c):(∀ t∈(c.finish p).words,0<=t.pos/\t.pos < p)/\((c.finish p).words.map Tok.pos).Pairwise (·< ·)/\(∀ t∈(c.finish p).words,t.text.size<=c.text.size/\0<=t.value/\t.value<=999999999)/\(c.finish p).words.length<=p:=by
 have h4:=hf.lo;have hhi:=hf.hi;have hcn:=hf.count;rcases aCC hf with e|⟨hm,k,v,t,e,h1,h2,h3⟩
 ·rw[e];exact⟨fun t ht=>Oi (h.lt t ht),h.up,fun t ht=>⟨h.text t ht,h.vals t ht⟩,Oa⟩
 ·have hs:=hf.some_ hm;rw[e];refine⟨fun t ht=>?_,?_,fun t ht=>?_,by simp only[List.length_append,List.length_cons,List.length_nil];omega⟩
  ·rcases List.mem_append.1 ht with ht|ht
   ·have:=h.lt t ht;omega
   ·simp only[List.mem_singleton]at ht;subst ht;exact⟨h4,hs⟩
  ·rw[List.map_append];refine List.pairwise_append.2 ⟨h.up,Od,fun a ha b hb=>?_⟩;obtain⟨t1,h0,rfl⟩:=List.mem_map.1 ha;simp only[List.map_cons,List.map_nil,List.mem_singleton]at hb;subst hb;exact(h.lt t1 h0).2
  ·rcases List.mem_append.1 ht with ht|ht
   ·exact⟨h.text t ht,h.vals t ht⟩
   ·simp only[List.mem_singleton]at ht;subst ht;exact⟨h1,h2,h3⟩
theorem aPS{c:Cut}{p:Nat}{r:Int}(hf:vL c p)(h:Wd c):Wd (c.step p r):=by
 unfold Cut.step
 split
 ·exact h
 ·obtain⟨b1,b2,b3,_⟩:=(c.finish p).begins_keeps p r;obtain⟨f1,_⟩:=c.finish_keeps p;obtain⟨g1,g2,g3,_⟩:=aB7 hf h;refine⟨?_,?_,?_,?_⟩
  ·rw[b3,b2];exact g1
  ·rw[b3];exact g2
  ·rw[b3,b1,f1];exact fun t ht=>(g3 t ht).1
  ·rw[b3];exact fun t ht=>(g3 t ht).2
structure aRY(s:ByteArray)(l:List Tok):Prop where
 lt:∀ t∈l,0<=t.pos/\t.pos < s.size
 up:(l.map Tok.pos).Pairwise (·< ·)
 text:∀ t∈l,t.text.size<=s.size
 vals:∀ t∈l,0<=t.value/\t.value<=999999999
 few:l.length<=s.size
theorem aSC(s:ByteArray):∀ (n:Nat) (c:Cut) (p:Nat),c.text=s->vL c p->Wd c->s.size - p < n->(c.run n p).code=0->aRY s (c.run n p).words:=by
 intro n
 induction n with
 |zero=>intro c p _ _ _ h;omega
 |succ n ih=>
  intro c p hs hf h hn hc;unfold Cut.run at hc ⊢;rw[hs]at hc ⊢
  by_cases hp:p < s.size
  ·rw[if_pos hp]at hc ⊢
   by_cases h0:(c.step p (Utf8.decode s p).1).code=0
   ·rw[Oh]at hc ⊢;have hw:=Lib.decode_width_pos s p hp;obtain⟨f1,f2⟩:=hf.step (by rw[hs];exact hp) (by rw[hs];exact h0);rw[hs]at f1 f2;exact ih _ _ f2 f1 (aPS hf h) Oa hc
   ·rw[if_pos h0]at hc;exact absurd hc h0
  ·rw[if_neg hp];obtain⟨g1,g2,g3,g4⟩:=aB7 hf h;have h1:=hf.le;rw[hs]at h1 g3;have:p=s.size:=Oa
   subst this;exact⟨g1,g2,fun t ht=>(g3 t ht).1,fun t ht=>(g3 t ht).2,g4⟩
theorem aGP(s:ByteArray)(hc:(dN s).code=0):aRY s (dN s).words:=
 aSC s _ _ 0 rfl (vL.start s) ⟨fun t ht=>(by cases ht),.nil,fun t ht=>(by cases ht),fun t ht=>(by cases ht)⟩ Oa hc
def aW(s:ByteArray):List Tok:=(dN s).words++[⟨0,s.size,ByteArray.mk #[],0⟩]
theorem lI(s:ByteArray):cY (aW s):=by
 unfold cY aW;simp[List.getD]
theorem mV{s:ByteArray}(hc:(dN s).code=0)(hs:s.size<=4000):eF (aW s):=by
 have h:=aGP s hc;refine⟨fun t ht=>?_,fun t ht=>?_,?_⟩
 ·rcases List.mem_append.1 ht with ht|ht
  ·exact Qd (h.text t ht) hs
  ·simp only[List.mem_singleton]at ht;subst ht;exact Qe _
 ·rcases List.mem_append.1 ht with ht|ht
  ·exact h.vals t ht
  ·simp only[List.mem_singleton]at ht;subst ht;exact⟨by show(0:Int)<=0;omega,by show(0:Int)<=999999999;omega⟩
 ·have:=h.few;simp only[aW,List.length_append,List.length_cons,List.length_nil];omega
theorem aBN{s:ByteArray}(hc:(dN s).code=0):((aW s).map Tok.pos).Pairwise (·< ·):=by
 have h:=aGP s hc;unfold aW;rw[List.map_append];refine List.pairwise_append.2 ⟨h.up,Od,fun a ha b hb=>?_⟩;obtain⟨t,ht,rfl⟩:=List.mem_map.1 ha;simp only[List.map_cons,List.map_nil,List.mem_singleton]at hb;subst hb;exact(h.lt t ht).2
theorem aRN{T:List Tok}(hu:(T.map Tok.pos).Pairwise (·< ·)){l:List Int}(h:Sg T 0 T.length l):l.Nodup/\l.length<=T.length:=by
 obtain⟨_,ix,rfl,hp,hb⟩:=h
 have key:∀ i j,i < j->j < T.length->(dD T i).pos < (dD T j).pos:=by
  intro i j h3 hj;have hi:=Nat.lt_trans h3 hj;have h1:=List.pairwise_iff_getElem.1 hu i j (by rw[List.length_map];exact hi) (by rw[List.length_map];exact hj) h3;rw[List.getElem_map,List.getElem_map]at h1;have e:∀ k (hk:k < T.length),dD T k=T[k]:=fun k hk=>by simp[dD,List.getD,List.getElem?_eq_getElem hk]
  rw[e i hi,e j hj];exact h1
 constructor
 ·rw[List.Nodup,List.pairwise_map];refine hp.imp_of_mem fun {a b} _ h6 h7=>?_;have:=key a b h7 (hb b h6).2;omega
 ·rw[List.length_map];have h4:ix.Nodup:=hp.imp fun h=>Oa
  have h0:ix ⊆ List.range T.length:=fun x hx=>List.mem_range.2 (hb x hx).2
  have h5:∀ (l m:List Nat),l.Nodup->l ⊆ m->l.length<=m.length:=by
   intro l
   induction l with
   |nil=>intro m _ _;exact Qe _
   |cons a l ih=>
    intro m hn hs;have ha:a∈m:=hs Od;have h2:=List.nodup_cons.1 hn;have:=ih (m.erase a) h2.2 (fun x hx=>(List.mem_erase_of_ne (fun e=>by subst e;exact h2.1 hx)).2 (hs (by simp[hx])));rw[List.length_erase_of_mem ha]at this;have:=List.length_pos_of_mem ha;simp only[List.length_cons];omega
  have:=h5 _ _ h4 h0
  rwa [List.length_range]at this
theorem aQN:∀ t:Tr,eE t<=(ps t).length:=by
 intro t
 induction t with
 |nil=>exact Qc _
 |node b o a l r ihl ihr=>
  rw[eD,kI]
  by_cases h9:a.tag=9
  ·rw[if_pos h9,Oh,if_pos ⟨Oa,by rw[h9];rfl⟩];omega
  ·rw[if_neg h9];omega
open Go.ChangeMaps Go.Deep Go.MapKept
variable {F:cM} {its:List Tr}
def gJ:Tr->Nat
 | .nil=>0
 | .node _ _ _ l _=>aD l
def mI(t:Tr)(k:Nat):Option Nat:=((aF 17 (bCF t)).map gJ)[k]?
def oU(t:Tr):Nat:=(aF 16 (bCF t)).length
def aP3(par:Nat->Option Nat)(na:Nat)(e:Tr):Prop:=∃ b o a l x y z p q,e= .node b o a l (.node x y z p q)/\a.tag=17/\z.tag=18/\Vd par na 12 p/\Vd par na 12 q/\aD l<=4
def aTL(e:Tr):Prop:=∃ b o a l r,e= .node b o a l r/\a.tag=16/\a.which < 6/\1<=a.val/\a.val<=64
theorem yY(k:Nat)(L:Tr):aF k L=(toL L).filter fun e=>bN e==k:=by
 induction L with
 |nil=>rfl
 |node b o a e r _ ih=>
  show(if bN e=k then e::aF k r else aF k r)=(e::toL r).filter _
  by_cases h:bN e=k
  ·rw[if_pos h,List.filter_cons_of_pos (by simpa using h),ih]
  ·rw[if_neg h,List.filter_cons_of_neg (by simpa using h),ih]
theorem aJS(e:Tr)(n:Int):gJ (iX e n)=gJ e:=by cases e<;>rfl
theorem aEB:∀ (L:Tr) (nA nF:Nat),Ws 18 L->(aF 17 (gaT L nA nF)).map gJ=(aF 17 L).map gJ/\(aF 16 (gaT L nA nF)).length=(aF 16 L).length:=by
 intro L
 induction L with
 |nil=>intro _ _ _;exact⟨rfl,rfl⟩
 |node b o a e r _ ih=>
  intro nA nF hw;obtain⟨_,h1,h0⟩:=aY Ot hw;obtain⟨ht,_⟩:=uR h1;unfold gaT
  by_cases h:bN e=16
  ·rw[if_pos h];obtain⟨i1,i2⟩:=ih (nA+1) nF h0;constructor
   ·show(if bN (iX e nA)=17 then _ else _:List Tr).map gJ=(if bN e=17 then _ else _:List Tr).map gJ;rw[jB,Oh,Oh];exact i1
   ·show(if bN (iX e nA)=16 then _ else _:List Tr).length=(if bN e=16 then _ else _:List Tr).length;rw[jB,if_pos h,if_pos h,List.length_cons,List.length_cons,i2]
  ·rw[if_neg h];obtain⟨i1,i2⟩:=ih nA (nF+1) h0;constructor
   ·show(if bN (iX e nF)=17 then _ else _:List Tr).map gJ=(if bN e=17 then _ else _:List Tr).map gJ;rw[jB,if_pos Oa,if_pos Oa,List.map_cons,List.map_cons,aJS,i1]
   ·show(if bN (iX e nF)=16 then _ else _:List Tr).length=(if bN e=16 then _ else _:List Tr).length;rw[jB,if_neg h,if_neg h];exact i2
theorem aTH:∀ (L:Tr) (nA nF j:Nat) (e:Tr),Ws 18 L->(aF 16 (gaT L nA nF))[j]?=some e->lH e=((nA+j:Nat):Int):=by
 intro L
 induction L with
 |nil=>intro nA nF j e _ h;cases h
 |node b o a e0 r _ ih=>
  intro nA nF j e hw h;obtain⟨_,h2,h1⟩:=aY Ot hw;obtain⟨ht,h3⟩:=uR h2;unfold gaT at h
  by_cases h0:bN e0=16
  ·rw[if_pos h0]at h;have h:(if bN (iX e0 nA)=16 then iX e0 nA::aF 16 (gaT r (nA+1) nF)else aF 16 (gaT r (nA+1) nF))[j]?=some e:=h;rw[jB,if_pos h0]at h;cases j with
   |zero=>
    simp only[List.getElem?_cons_zero,Option.some.injEq]at h;rw[<-h,qP h3];simp
   |succ j=>
    simp only[List.getElem?_cons_succ]at h;rw[ih _ _ _ _ h1 h];congr 1;omega
  ·rw[if_neg h0]at h;have h:(if bN (iX e0 nF)=16 then iX e0 nF::aF 16 (gaT r nA (nF+1))else aF 16 (gaT r nA (nF+1)))[j]?=some e:=h;rw[jB,if_neg h0]at h;exact ih _ _ _ _ h1 h
theorem tP{s:Rs}{i:Nat}{p:Int}(h:(s.fifth i p).code=0):s.fifth i p=s/\i < 4:=by
 unfold Rs.fifth at h ⊢
 by_cases hi:4<=i
 ·rw[if_pos hi]at h;exact absurd h (dX Ob)
 ·rw[if_neg hi];exact⟨rfl,Oa⟩
theorem aO0{s:Rs}{a:Nd}(h:(s.few a).code=0):s.few a=s:=by
 unfold Rs.few at h ⊢
 by_cases hi:8<=a.which
 ·rw[if_pos hi]at h;exact absurd h (dX Ob)
 ·rw[if_neg hi]
theorem yA{s:Rs}{a:Nd}{i:Nat}(h:(s.twice F a i).code=0):s.twice F a i=s:=by
 unfold Rs.twice at h ⊢
 by_cases hi:(look a.name F).getD 0=(i:Int)
 ·rw[if_pos hi]
 ·rw[if_neg hi]at h;exact absurd h (dX Ob)
theorem aOY{s:Rs}{a:Nd}(h:(s.arr a).code=0):s.code=0/\a.which < 6/\1<=a.val/\a.val<=64:=by
 unfold Rs.arr at h
 by_cases hb:mH a=true
 ·rw[if_pos hb]at h;exact absurd h (dX Ob)
 ·rw[if_neg hb]at h;unfold Rs.six at h
  by_cases hi:6<=a.which
  ·rw[if_pos hi]at h;exact absurd h (dX Ob)
  ·rw[if_neg hi]at h;unfold mH at hb;simp only[Bool.or_eq_true,decide_eq_true_eq,not_or]at hb;exact⟨h,Oa,Oa,Oa⟩
theorem aMW{s:Rs}{x:ByteArray}{p:Int}(hv:nZ s)(h:(s.param x p).code=0):nZ (s.param x p)/\(s.param x p).vars.length=s.vars.length+1/\s.code=0/\s.vars.length < 4:=by
 have h1:(s.newVar x p 4).code=0:=h;obtain⟨e,hl,hf⟩:=oJ h1;have hp:s.param x p=s.addVar x:=by unfold Rs.param;rw[e]
 rw[hp]at h ⊢;obtain⟨k1,k2⟩:=aE9 hv hl Oa;exact⟨k1,k2,h,Oa⟩
theorem aQA:∀ (L:Tr) (s:Rs),nZ s->(jF L s).code=0->nZ (jF L s)/\(jF L s).vars.length=s.vars.length+aO L/\s.code=0/\(s.vars.length<=4->s.vars.length+aO L<=4):=by
 intro L
 induction L with
 |nil=>intro s hv h;exact⟨hv,rfl,h,fun h=>h⟩
 |node b o a e r _ ih=>
  intro s hv h;have h:(jF r (s.param (eI e) (bEN e))).code=0:=h
  have hz:∀ (L:Tr) (s:Rs),(jF L s).code=0->s.code=0:=by
   intro L
   induction L with
   |nil=>intro s h;exact h
   |node b o a e r _ ih=>
    intro s h;have:=ih _ h
    exact(show s.code=0 by
     have h1:(s.newVar (eI e) (bEN e) 4).code=0:=this
     rwa [(oJ h1).1]at h1)
  obtain⟨k1,k2,k3,k4⟩:=aMW hv (hz r _ h);obtain⟨j1,j2,j3,j4⟩:=ih _ k1 h;refine⟨j1,?_,k3,fun _=>?_⟩
  ·show(jF r _).vars.length=s.vars.length+(aO r+1);omega
  ·show s.vars.length+(aO r+1)<=4;have:=j4 Oa;omega
theorem aS2{par:Nat->Option Nat}{na:Nat}(hI:aFB F its par na):∀ (L:Tr) (i:Nat) (s:Rs),Ws 15 L->nZ s->(whR F its L i s).code=0->nZ (whR F its L i s)/\s.code=0/\Vd par na 12 (whT F its L i s):=by
 intro L
 induction L with
 |nil=>intro i s _ hv h;exact⟨hv,h,trivial⟩
 |node b o a e r _ ih=>
  intro i s hw hv h;obtain⟨h15,h4,h5⟩:=aY Ov hw
  have hz:∀ (L:Tr) (i:Nat) (s:Rs),(whR F its L i s).code=0->s.code=0:=by
   intro L
   induction L with
   |nil=>intro i s h;exact h
   |node b o a e r _ ih=>
    intro i s h;have h1:=jS _ _ (ih _ _ h);rw[(tP h1).1]at h1;exact jS _ _ h1
  have h:(whR F its r (i+1) (rsT F its (qJ e) ((rsT F its (lX e) s).fifth i (mF e)))).code=0:=h;have h1:=hz _ _ _ h;have h2:=jS _ _ h1;obtain⟨e5,_⟩:=tP h2;rw[e5]at h h1 h2;cases e with
  |nil=>exact absurd h4 (by unfold Ws bK;simp)
  |node b2 o2 a2 x y=>
   obtain⟨_,sx,sy,h0,hx,hy⟩:=h4.parts
   have h7:a2.tag=7:=by
    by_cases h:a2.tag=7
    ·exact h
    ·exfalso;simp[sig,h]at h0
   rw[h7]at h0;cases h0;obtain⟨v1,v2,v3⟩:=aFG hI x 21 s hx h2 hv;obtain⟨w1,w2,w3⟩:=aFG hI y 21 _ hy h1 v1;obtain⟨z1,_,z3⟩:=ih (i+1) _ h5 w1 h
   have h6:whT F its (.node b o a (.node b2 o2 a2 x y) r) i s= .node b o a (.node b2 o2 a2 (reT F its x s) (reT F its y (rsT F its x s))) (whT F its r (i+1) (rsT F its y (rsT F its x s))):=by
    show BT.node b o a (bCU _ _ (reT F its y ((rsT F its x s).fifth i a2.pos))) (whT F its r (i+1) (rsT F its y ((rsT F its x s).fifth i a2.pos)))=_;rw[show(rsT F its x s).fifth i a2.pos=rsT F its x s from e5];rfl
   have h3:whR F its (.node b o a (.node b2 o2 a2 x y) r) i s=whR F its r (i+1) (rsT F its y (rsT F its x s)):=by
    show whR F its r (i+1) (rsT F its y ((rsT F its x s).fifth i a2.pos))=_;rw[show(rsT F its x s).fifth i a2.pos=rsT F its x s from e5]
   rw[h6,h3];have f1:=v1.few;have f2:=w1.few;refine⟨z1,jS _ _ h2,⟨v3.mono f1,w3.mono f2,fun e=>Oa,fun e=>Oa,fun e=>Oa⟩,z3,fun e=>Oa,fun e=>Oa,fun e=>Oa⟩
theorem aLE{par:Nat->Option Nat}{na nv s:Nat}{p L:Tr}(hs:s=3\/s=4\/s=5\/s=6\/s=8)(hw:Ws s p)(h:Vd par na nv L):Vd par na nv (iS p L):=by
 rcases hw.lst hs with rfl|⟨b,o,a,l,rfl,ht,_⟩
 ·trivial
 ·exact⟨h,trivial,fun e=>Oa,fun e=>Oa,fun e=>Oa⟩
theorem yU{s:Nat}{p L:Tr}(hs:s=3\/s=4\/s=5\/s=6\/s=8)(hw:Ws s p)(h:aO L=aO (bCF p)):aD (iS p L)=aD p:=by
 rcases hw.lst hs with rfl|⟨b,o,a,l,rfl,ht,_⟩
 ·rfl
 ·exact h
theorem aSS{par:Nat->Option Nat}{na:Nat}(hI:aFB F its par na){e:Tr}{i:Nat}{s:Rs}(hw:Ws 7 e)(h:(itR F its e i s).code=0):s.code=0/\(bN e=17->aP3 par na (itT F its e i s))/\(bN e=16->aTL (itT F its e i s)):=by
 obtain⟨b,o,a,l,r,rfl,ht⟩:=iB hw;rcases ht with ht|ht
 ·have e1:itR F its (.node b o a l r) i s=(s.twice F a i).arr a:=if_pos ht;rw[e1]at h;obtain⟨h1,h2,h3,h4⟩:=aOY h;rw[yA h1]at h1;refine⟨h1,fun e=>by have:a.tag=17:=e;omega,fun _=>?_⟩;rw[show itT F its (.node b o a l r) i s= .node b o a l r from if_pos ht];exact⟨b,o,a,l,r,rfl,ht,h2,h3,h4⟩
 ·obtain⟨hl,x,y,z,p,q,rfl,hz,hp,hq⟩:=oO hw ht;have e1:itR F its (.node b o a l (.node x y z p q)) i s=fnR F its (.node b o a l (.node x y z p q)) (s.twice F a i):=Oh;rw[e1]at h;have e2:itT F its (.node b o a l (.node x y z p q)) i s=fnT F its (.node b o a l (.node x y z p q)) (s.twice F a i):=Oh;rw[e2];generalize h6:s.twice F a i=s2 at h ⊢;have h:(rsT F its q (fnS F its a l p s2).2).code=0:=h;have k1:=jS _ _ h;have k2:(whR F its (bCF p) 0 (jF (bCF l) (s2.few a).clear)).code=0:=k1;have vc:nZ (s2.few a).clear:=⟨(fun x i h=>by cases h),by show 0<=12;omega⟩
  have h5:∀ (L:Tr) (i:Nat) (s:Rs),(whR F its L i s).code=0->s.code=0:=by
   intro L
   induction L with
   |nil=>intro i s h;exact h
   |node b o a e r _ ih=>
    intro i s h;have h1:=jS _ _ (ih _ _ h);rw[(tP h1).1]at h1;exact jS _ _ h1
  obtain⟨p1,p2,p3,p4⟩:=aQA (bCF l) _ vc (h5 _ _ _ k2);obtain⟨w1,_,w3⟩:=aS2 hI (bCF p) 0 _ (hp.elems Ov) p1 k2;obtain⟨q1,q2,q3⟩:=aFG hI q 4 _ hq h w1;have c0:(s2.few a).code=0:=p3;rw[aO0 c0]at c0;rw[<-h6]at c0;have c1:=yA c0;rw[c1]at c0;refine⟨c0,fun _=>?_,fun e=>by have:a.tag=16:=e;omega⟩;have f1:=q1.few;refine⟨b,o,_,_,x,y,z,_,_,rfl,ht,hz,aLE Ov hp w3,q3.mono f1,?_⟩;have h7:=bCQ (bCF l) (s2.few a).clear;rw[yU Ou hl h7.1,aT];have:=p4 (by show 0<=4;omega);have h0:(s2.few a).clear.vars.length=0:=rfl;omega
theorem aQQ{par:Nat->Option Nat}{na:Nat}(hI:aFB F its par na):∀ (L:Tr) (i:Nat) (s:Rs),Ws 18 L->(aAC F its L i s).code=0->s.code=0/\(∀ e∈aF 17 (hY F its L i s),aP3 par na e)/\(∀ e∈aF 16 (hY F its L i s),aTL e):=by
 intro L
 induction L with
 |nil=>intro i s _ h;exact⟨h,fun e h=>(by cases h),fun e h=>(by cases h)⟩
 |node b o a e0 r _ ih=>
  intro i s hw h;obtain⟨_,h6,h7⟩:=aY Ot hw;obtain⟨h1,h2,h3⟩:=ih _ _ h7 h;obtain⟨k1,k2,k3⟩:=aSS hI h6 h1
  have h0:bN (itT F its e0 i s)=bN e0:=by
   obtain⟨_,_,_,b,o,a,l,r,a',l',r',e1,e2,e3,_⟩:=uS (F:=F) (its:=its) i s h6;rw[e2,e1];exact e3
  refine⟨k1,fun e he=>?_,fun e he=>?_⟩
  ·have he:e∈(if bN (itT F its e0 i s)=17 then itT F its e0 i s::aF 17 (hY F its r (i+1) (itR F its e0 i s))else aF 17 (hY F its r (i+1) (itR F its e0 i s))):=he;rw[h0]at he
   by_cases h4:bN e0=17
   ·rw[if_pos h4]at he;rcases List.mem_cons.1 he with rfl|he
    ·exact k2 h4
    ·exact h2 e he
   ·rw[if_neg h4]at he;exact h2 e he
  ·have he:e∈(if bN (itT F its e0 i s)=16 then itT F its e0 i s::aF 16 (hY F its r (i+1) (itR F its e0 i s))else aF 16 (hY F its r (i+1) (itR F its e0 i s))):=he;rw[h0]at he
   by_cases h5:bN e0=16
   ·rw[if_pos h5]at he;rcases List.mem_cons.1 he with rfl|he
    ·exact k3 h5
    ·exact h3 e he
   ·rw[if_neg h5]at he;exact h3 e he
end
end Go.Proofs.YtikffmloeifkpaaGreatDoor
