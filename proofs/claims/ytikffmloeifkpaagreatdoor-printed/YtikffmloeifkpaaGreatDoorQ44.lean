/- Contracts. -/
import Derived.Test.YtikffmloeifkpaaGreatDoorQ43
import Derived.Test.YtikffmloeifkpaaGreatDoorQ38
import Derived.Test.YtikffmloeifkpaaGreatDoorQ24
import Derived.Test.YtikffmloeifkpaaGreatDoorQ37
set_option maxHeartbeats 16000000
set_option maxRecDepth 100000
namespace Go.Proofs.YtikffmloeifkpaaGreatDoor
section
open Go.RowKit Go.Lib Go.Deep Go.Maps Go.ChangeMaps Go.MapKept
variable {w0:World} {H pb lb kb vb xb nw nw' c c':Nat} {vS:Value} {K K':Kn} {S:Sl} {F F':Fl} {alive:Bool} {vs:Vr} {u w w':World} {m:Bool} {al fl:List Tr} {lens:Nat->Int} {par:Nat->Option Nat} {na:Nat}
theorem aCZ{b o:Nat}{a:Nd}{b3 o3:Nat}{d:Nd}{x y q:Tr}{s:St}(h15:a.tag=15):eN (.node b o a (.node b3 o3 d x y) q) s=eN q (jW s d.op (iK (cC s) x,cV x) (iK (cC s) y,cV y)):=by
 conv=>lhs;unfold eN
 rw[Oh]
theorem aCY{t:Tr}{s:St}(h:Ws 5 t):eN t s=eN (bCF t) s:=by
 rcases h.lst (.inr Ow)with rfl|⟨b,o,a,l,rfl,ht,_⟩
 ·rfl
 ·conv=>lhs;unfold eN
  exact if_pos ht
def aA1(i:Nat):Vr:=fun j=>if j < i then bEE else(0,0)
theorem aOV(i:Nat):∀ j,aA1 (i+1) j=oT (aA1 i) i bEE j:=fun j=>by
 show(if j < i+1 then bEE else((0,0):Rg))=if j=i then bEE else if j < i then bEE else((0,0):Rg)
 by_cases e:j=i
 ·subst e;rw[if_pos Oa,if_pos rfl]
 ·rw[if_neg e]
  by_cases e2:j < i
  ·rw[if_pos e2,if_pos Oa]
  ·rw[if_neg e2,Oh]
theorem aRD(n:Nat):OkS (some (aA1 n)):=OkS.some fun j=>by
 unfold aA1
 split
 ·exact bV.all
 ·exact bV.zero
theorem LkE.cleared{E:Int->Option Nat}(h:LkE H lb pb kb vS nw c K E w):∃ w',(∀ ty,(Builtin.clear_ #[170] ty #[.map (some kb)]).run Tryz.prog w= .ok (.tuple #[]) w')/\LkE H lb pb kb vS nw c (fun _=>none) (fun _=>none) w'/\Fs H true w w':=by
 obtain⟨w',hr,hm,ht⟩:=h.map.clear;exact⟨w',hr,⟨mU ht h.blk,hm.mono (Qe _),fun _ _=>rfl,(fun _ _ e=>by cases e),(fun _ _ _ e=>by cases e),fun _ _=>rfl,h.ge,h.few⟩,(Fs.refl _ _ _).turned h.ge.2 ht⟩
def aP2(w0:World)(pb lb kb:Nat)(vS:Value)(S:Sl)(F':Fl)(c':Nat)(w:World):Ending->World->Prop:=fun e w'=>e= .returned (.tuple #[])/\∃ (nw':Nat) (K':Kn),SkW w0 pb lb kb vS S F' nw' c' K' w'/\Fu w0.heap.size w w'
theorem aGE(hp:PgX pb al fl w0){b:Nat}{a:Nd}{l p q:Tr}(z6:FnW w0 b a l p q)(hpl:aD l<=4)(k3:∃ ao cp,bCH l= .slice ao (aD l) cp)(h8:Ws 5 p)(y5:IsT w0 p)(k5:Vd par na 12 p)(z3:Ws 4 q)(z5:GSk 136 w0 pb vS S al fl bCH q)(hc:c+(2*mu q+1)<=4611686018427387904)(h:SkW w0 pb lb kb vS S F nw c K w):
 Calls Tryz.prog 83 #[.pointer (some ⟨lb,0,none⟩),.pointer (some ⟨b,0,none⟩)] w (aP2 w0 pb lb kb vS S (stA (bCG al) fl q (eN p (nW (aD l))) F).2 (c+(2*mu q+1)) w):=by
 obtain⟨aol,cpl,k3⟩:=k3;obtain⟨aop,cpp,k7⟩:=h8.lstval Ov;obtain⟨aoq,cpq,k6⟩:=z3.lstval Ow;obtain⟨_,_,m3,m4,m5,_⟩:=z6.cells;rw[k3]at m3;rw[k7]at m4;rw[k6]at m5;have hlenp:=fB Ov h8;have y8:=xW (S:=S) (vS:=vS) hp h8 y5 k5;rw[aCY h8];obtain⟨E,hE⟩:=h.lk;obtain⟨c0,c1,c2,c3,cf⟩:=cO hE.blk;obtain⟨w1,hr,l1,f1⟩:=hE.cleared;have S1:=h.step f1 ⟨_,l1⟩ fun _=>OkS.none;have g7:Hid _:=S1;have g5:Hid (Fu w0.heap.size w w1):=f1.both;have hfew:=h.few;have h6:w0.heap.size<=w1.heap.size:=S1.size;obtain⟨o1,k4⟩:∃ o1:Obj,o1= .cells bEU 261:=⟨_,rfl⟩;obtain⟨kA,bA,zA⟩:=qN w1 o1;have z4:dW w1.heap.size (aA1 0) (w1.alloc o1):=by rw[k4];exact(xX w1).eq fun i _=>rfl
 have L0:dW w1.heap.size (aA1 0) (w1.alloc o1)/\FlW w0.heap.size vS S F (w1.alloc o1)/\Fs w0.heap.size false w1 (w1.alloc o1):=⟨z4,(S1.new bA).fl,Fs.of bA S1.size false⟩;have e3:=aE (S1.new bA).low m3;have g9:Hid _:=m4;have g8:Hid _:=m5;have g2:Hid (Ws 5 p):=h8;have j9:Hid (IsT w0 p):=y5;have g4:Hid (Vd par na 12 p):=k5;have g3:Hid (bCH p= .slice aop (aD p) cpp):=k7
 have d3:Hid (∀ (K1:Kn) (W:World) (s:St),K1 0=s->SkW w0 pb lb kb vS S F nw (c+1) K1 W->Calls Tryz.prog 136 #[.pointer (some ⟨lb,0,none⟩),.int .i64 0,.slice aoq (aD q) cpq] W (pO w0 pb lb kb vS S 0 nw (c+1+2*mu q) K1 (stA (bCG al) fl q s F) W)):=fun K1 W s hs h3=>by
  have:=z5 lb kb F nw (c+1) K1 0 W Oa Oa h3;rw[k6,hs]at this;exact this
 obtain⟨B,hB⟩:∃ B:St,B=nW (aD l):=⟨_,rfl⟩;rw[<-hB];have HB:Hid (B=some (aA1 (aD l))):=hB;obtain⟨Tw,y7⟩:∃ Tw,Tw=eN (bCF p) B:=⟨_,rfl⟩;rw[<-y7];have g6:Hid (Tw=eN (bCF p) B):=y7;generalize mu q=mq at*;unfold bEU at k4;clear hE h S1 l1 f1 z6 h8 y5 k5 z3 z5 k3 k7 k6 z4 kA bA m3 m4 m5 hB y7 zA;go_enter Tryz.func83,Tryz.ntmps83
 go_upto_region 2 with fail
 rw[<-k4];clear k4;generalize w1.alloc o1=wA at*;go_wp2_with fail
 go_loopg [21] (aD l) (fun m v wr=>∃ i:Nat,v= .int .i64 i/\i<=aD l/\aD l<=i+m/\dW w1.heap.size (aA1 i) wr/\FlW w0.heap.size vS S F wr/\Fs w0.heap.size false w1 wr)
 case atStart=>exact⟨0,rfl,Qe _,Oa,L0⟩
 case round=>
  clear L0 c0 c1 c2 c3 cf e3;obtain⟨i,rfl,hle,hmm,hv,hf,hx⟩:=hrel
  rename World=>WP
  have HV:Hid (dW w1.heap.size (aA1 i) WP):=hv;have HF:Hid (FlW w0.heap.size vS S F WP):=hf;have HX:Hid (Fs w0.heap.size false w1 WP):=hx;have g1:w0.heap.size<=WP.heap.size:=by have:=hx.size;omega
  by_cases hlt:i < aD l
  ·have y3:(i:Int) < (aD l:Int):=Oa
   have hiI:0<=(i:Int)/\(i:Int) < 12:=Oa
   obtain⟨k,rfl⟩:=Oj gk;obtain⟨xc,xf⟩:=hv.cells;obtain⟨x0,x1⟩:=xc i Oa;clear xc hv hf hx;go_upto_region 5 with fail
   go_region_with (go_at_call 133;refine(rK _).mono ?_;rintro e Wa ⟨rfl,ha⟩;have fa:Fs w0.heap.size false WP.drew Wa:=Fs.of ha g1 false;have va:=dW.fs (w:=WP.drew) HV.out fa;obtain⟨zc,zf⟩:=va.cells;obtain⟨z0,z1⟩:=zc i Oa;clear zc;rw[aS])
   all_goals
    have FIN:Hid (dW w1.heap.size (aA1 (i+1)) ((Wa.setCell ⟨w1.heap.size,i*2,none⟩ (.int .i64 bEE.1)).setCell ⟨w1.heap.size,i*2+1,none⟩ (.int .i64 bEE.2))/\FlW w0.heap.size vS S F ((Wa.setCell ⟨w1.heap.size,i*2,none⟩ (.int .i64 bEE.1)).setCell ⟨w1.heap.size,i*2+1,none⟩ (.int .i64 bEE.2))/\Fs w0.heap.size false w1 ((Wa.setCell ⟨w1.heap.size,i*2,none⟩ (.int .i64 bEE.1)).setCell ⟨w1.heap.size,i*2+1,none⟩ (.int .i64 bEE.2))):=by
     refine⟨(va.put Oa bEE).eq fun j _=>aOV i j,?_,((HX.out.drew.trans fa).setNew h6 Ol _ _).setNew h6 Ol _ _⟩;obtain⟨cs,z8,_⟩:=va;have f4:FlW w0.heap.size vS S F Wa:=HF.out.same fun k _ hk=>(ha.block k (Oo hk));exact(f4.setOther z8 Ob _ _).setOther (aM _ z8) Ob _ _
    clear fa va z0 z1 zf ha;generalize ((Wa.setCell ⟨w1.heap.size,i*2,none⟩ (.int .i64 bEE.1)).setCell ⟨w1.heap.size,i*2+1,none⟩ (.int .i64 bEE.2))=WF at*;go_wp2;go_roundg k
    case rel=>exact⟨i+1,Od,Oa,Oa,FIN.out⟩
    case measure=>omega
  ·obtain rfl:i=aD l:=Oa
   have y3: ¬((aD l:Nat):Int) < ((aD l:Nat):Int):=Oa
   have S2:=g7.out.next hx hf;obtain⟨E2,l2⟩:=S2.lk;obtain⟨c0,c1,c2,c3,cf⟩:=cO l2.blk;obtain⟨W2,k8,l3,f3⟩:=l2.putNew (q:=0) (k:=w1.heap.size) (vs:=aA1 (aD l)) Oa h6 hv (fun p=>by rw[l2.dead p rfl];exact fun e=>by cases e) Oa;have S3:=S2.step f3 ⟨_,l3⟩ (eW S2.ok (aRD (aD l)) 0);have U3:Hid (Fu w0.heap.size w W2):=(g5.out.trans hx.both).trans f3.both;have LW:∃ K1,SkW w0 pb lb kb vS S F nw (c+1) K1 W2/\Tw=eN (aL 0 (bCF p)) (K1 0)/\Fu w0.heap.size w W2:=⟨_,S3,by rw[bU,<-HB.out];exact g6.out,U3.out⟩;have e4:=aE S3.low g9.out;clear S2 l2 l3 f3 hv hf hx HV HF HX U3 S3;go_wp2_with fail
   go_loopg [40] (aD p) (fun m v wr=>∃ i:Nat,v= .int .i64 i/\i<=aD p/\aD p<=i+m/\∃ K1,SkW w0 pb lb kb vS S F nw (c+1) K1 wr/\Tw=eN (aL i (bCF p)) (K1 0)/\Fu w0.heap.size w wr)
   case atStart=>exact⟨0,rfl,Qe _,Oa,LW⟩
   case round=>
    clear LW c0 c1 c2 c3 cf e4 k8;obtain⟨i,rfl,hle2,hm2,K1,X,hT,hU⟩:=hrel
    by_cases y4:i < aD p
    ·have k1:(i:Int) < (aD p:Int):=Oa
     obtain⟨b2,o2,a2,e2,r2,hd,z7⟩:=dK i (bCF p) (by rw[<-aT];exact y4);have j5:=fE.drop i _ y8;rw[hd]at j5 hT;obtain⟨j7,⟨hE,hG⟩,_⟩:=j5;obtain⟨b3,o3,a3,l3,q3,rfl,h7,w21l,w21q⟩:=aL9 hE;obtain⟨gg,rfl,h4⟩:=pJ (H:=0) g2.out j9.out (Fr.refl 0 F0 w0) F0.body g3.out hd ⟨b3,o3,a3,l3,q3,rfl,h7⟩;have h4:w0.cell? ⟨gg,i,none⟩=some (.pointer (some ⟨b3,0,none⟩)):=h4;have h4:=aE X.low h4
     have y6:IsT w0 (.node b3 o3 a3 l3 q3):=by
      have h1:IsT w0 (bCF p):=by
       cases p with
       |nil=>trivial
       |node=>exact j9.out.1
      have h2:=nQ i _ h1;rw[hd]at h2;exact h2.1
     obtain⟨k0,h9⟩:Vd par na 12 l3/\Vd par na 12 q3:=by
      have h1:Vd par na 12 (bCF p):=by
       cases p with
       |nil=>trivial
       |node=>exact g4.out.1
      have h2:∀ (i:Nat) (L:Tr),Vd par na 12 L->Vd par na 12 (aL i L):=by
       intro i
       induction i with
       |zero=>intro L h;exact h
       |succ n ih=>
        intro L h;cases L with
        |nil=>trivial
        |node=>exact ih _ h.2.1
      have h3:=h2 i _ h1;rw[hd]at h3;exact⟨h3.1.1,h3.1.2.1⟩
     obtain⟨m0,_,_⟩:=pW y6.2.2 h7
     have ho:21<=a3.op/\a3.op<=26:=by
      obtain⟨k9,_⟩:=hE.parts;exact k9.op7 h7
     have hG:GV 260 w0 pb vS S al fl bCH l3/\GV 260 w0 pb vS S al fl bCH q3:=hG;have h0:=aHF h7 y6 ⟨sP w21l,hG.1⟩ ⟨sP w21q,hG.2⟩ 0 Oa X;have hA:=aQ2 (lens:=bCG al) (fl:=fl) (alive:=(K1 0).isSome) (sP w21l) k0 (X.ok 0).vs F;have k2:=aQ2 (lens:=bCG al) (fl:=fl) (alive:=(K1 0).isSome) (sP w21q) h9 (X.ok 0).vs F;rw[sM w21l,sM w21q]at h0;rw[sM w21l]at hA;rw[sM w21q]at k2;rw[aCZ j7]at hT
     change Calls Tryz.prog _ _ _ (fun e w'=>e= .returned (.tuple #[sdV (iK (cC (K1 0)) l3,cV l3),sdV (iK (cC (K1 0)) q3,cV q3)])/\FlW w0.heap.size vS S F w'/\Fs w0.heap.size false wr w')at h0
     change SdW (iK (cC (K1 0)) l3,cV l3)at hA
     change SdW (iK (cC (K1 0)) q3,cV q3)at k2
     obtain⟨A,j6⟩:∃ A:Sd,A=(iK (cC (K1 0)) l3,cV l3):=⟨_,rfl⟩;obtain⟨B2,j4⟩:∃ B:Sd,B=(iK (cC (K1 0)) q3,cV q3):=⟨_,rfl⟩;rw[<-j6]at h0 hA hT;rw[<-j4]at h0 k2 hT;have g0:Hid (aL (i+1) (bCF p)=r2):=z7;have HT:Hid _:=hT;have HU:Hid (Fu w0.heap.size w wr):=hU;have HS:Hid (SkW w0 pb lb kb vS S F nw (c+1) K1 wr):=X;have d7:Hid (SdW A):=hA;have d4:Hid (SdW B2):=k2;have j8:Hid _:=m0;generalize a3.op=op at*;obtain⟨k,rfl⟩:=Oj gk;clear hT hU X hA k2 m0 j6 j4 hG k0 h9 y6 hd z7 w21l w21q h7 j7 hE y8;go_wp2_with fail
     refine h0.mono ?_;rintro e W ⟨rfl,f2,x2⟩;have S2:=HS.out.next x2 f2;obtain⟨W0,z9,b1,b2,y9,hz⟩:=pM W A B2;have S3:Hid (SkW w0 pb lb kb vS S F nw (c+1) K1 W0):=S2.new y9;have U3:Hid (Fu w0.heap.size w W0):=HU.out.trans (x2.trans (Fs.of y9 S2.size false)).both;obtain⟨p0,p1,p2,pf⟩:=aG b1;obtain⟨q0,q1,q2,qf⟩:=aG b2;have c0':=aE S3.out.low j8.out;have d6:Hid _:=b1;have d5:Hid _:=b2;have hh:=aG8 S3.out.drew.lk 0 Oa op ho A B2 d7.out d4.out;rw[jQ A,jQ B2]at hh;rw[jQ A,jQ B2];clear h0 f2 x2 S2 b1 b2 y9;go_upto_region 12 with fail
     rw[<-z9];clear z9
     go_region_held3 (fun w'=>w'.cell? ⟨b3,0,none⟩=some (.int .i64 op)/\w'.cell? ⟨W.heap.size,0,none⟩=some (.int .i64 A.1.1)/\w'.cell? ⟨W.heap.size,1,none⟩=some (.int .i64 A.1.2)/\w'.cell? ⟨W.heap.size,2,none⟩=some (.int .i64 A.2)/\w'.cell? ⟨W.heap.size+1,0,none⟩=some (.int .i64 B2.1.1)/\w'.cell? ⟨W.heap.size+1,1,none⟩=some (.int .i64 B2.1.2)/\w'.cell? ⟨W.heap.size+1,2,none⟩=some (.int .i64 B2.2))
      (first
        |(refine⟨?_,?_,?_,?_,?_,?_,?_⟩<;>assumption)
        |go_keep)
      ((go_at_call 135;refine hh.mono ?_;rintro e Wa ⟨rfl,h5,f5⟩;have S5:=S3.out.drew.step f5 h5 (eW S3.out.ok (bF6 (S3.out.ok 0) op A B2) 0);have d1:=f5.keep (w:=W0.drew) d6.out Ob (.inl Ob) (.inl Ob);have d2:=f5.keep (w:=W0.drew) d5.out Ob (.inl Ob) (.inl Ob);obtain⟨y0,y1,y2,yf⟩:=aG d1;obtain⟨z0,z1,z2,zf⟩:=aG d2;have d0:=aE S5.low j8.out))
     have fin:∃ i':Nat,Value.int .i64 ((i:Int)+1)= .int .i64 i'/\i'<=aD p/\aD p<=i'+k/\∃ K1,SkW w0 pb lb kb vS S F nw (c+1) K1 Wa/\Tw=eN (aL i' (bCF p)) (K1 0)/\Fu w0.heap.size w Wa:=
      ⟨i+1,Od,Oa,Oa,_,S5,by rw[g0.out,bU];exact HT.out,U3.out.trans ((Fs.refl _ _ _).drew.trans f5).both⟩
     clear S5 h5 f5 d1 d2 y0 y1 y2 yf z0 z1 z2 zf d0 hh p0 p1 p2 pf q0 q1 q2 qf c0' HT g0;go_wp2;go_roundg k
     case rel=>exact fin
     case measure=>omega
    ·have k1: ¬(i:Int) < (aD p:Int):=Oa
     have j3:K1 0=Tw:=by
      rw[hT,show i=aO (bCF p)by rw[<-aT];omega,eS];rfl
     have h0:=d3.out K1 wr Tw j3 X;have e5:=aE X.low g8.out;have HU:Hid (Fu w0.heap.size w wr):=hU;generalize stA (bCG al) fl q Tw F=Y at*;clear X hT j3 hU y8;go_wp2_with fail
     refine h0.mono ?_;rintro e W ⟨rfl,nw4,K4,j0,S4,j1,j2,U4⟩;have FIN:Hid (aP2 w0 pb lb kb vS S Y.2 (c+(2*mq+1)) w (.returned (.tuple #[])) W):=⟨rfl,nw4,K4,S4.mono Oa Oa,HU.out.trans U4⟩;clear S4 j1 j2 U4 h0 e5;go_wp2;go_end0
     exact FIN.out
end
section
open Go.RowKit Go.Lib Go.Deep Go.Maps Go.ChangeMaps Go.MapKept
variable {w0:World} {H pb lb kb vb xb nw nw' c c':Nat} {vS:Value} {S:Sl} {w w':World}
theorem aAA:∀ (S:Sl) (u:Value),u∈dC S->u.oneCell'=true:=by
 intro S
 induction S with
 |nil=>intro u h;cases h
 |cons x r ih=>
  obtain⟨a,b⟩:=x;intro u h;simp only[dC,List.mem_cons]at h;rcases h with rfl|rfl|rfl|h
  ·simp[Value.oneCell']
  ·simp[Value.oneCell']
  ·simp[Value.oneCell']
  ·exact ih u h
theorem aR6(h6:w.ownsRow H 55 3 vS S.length (dC S))(hn:S.length<=1000000):
 Calls Tryz.prog 82 #[vS] w fun e w'=>∃ v,e= .returned v/\w'.ownsRow w.heap.size 55 3 v S.length (dC S)/\Below w.heap.size w w':=by
 obtain⟨i0,k6,k3,k2,k1⟩:=info_parts Tryz.infoSI;rcases h6.2 with⟨rfl,h0⟩|⟨g,cap,cur,rfl,hb,hg,hle,hcap,hsz,k4⟩
 ·have hS:S=[]:=List.length_eq_zero_iff.1 h0;subst hS;have heq:∀ w:World,(binOp .eql 52 (.slice none 0 0) (.slice none 0 0)).run Tryz.prog w= .ok (.bool true) w:=fun w=>by kernel_rfl
  go_enter Tryz.func82,Tryz.ntmps82
  go_wp2;go_ret;exact⟨_,rfl,World.ownsRow_nil _ _ _ _,Below.refl _ _⟩
 ·have hl:=h6.1
  have h5:∀ (W:World),Below w.heap.size w W->∀ j u,(dC S)[j]?=some u->W.cell? ((⟨g,0,none⟩:Addr).add j)=some u:=fun W hW j u hu=>by
   have k0:(⟨g,0,none⟩:Addr).add j=⟨g,j,none⟩:=by unfold Addr.add;split<;>simp_all
   have k7:W.heap[g]?=some (.cells cur 55 (0,0)):=(hW.block g (Oo hg)).trans hg;rw[k0,cell_of_row _ _ _ _ _ _ k7];rw[<-k4,List.getElem?_take]at hu
   split at hu
   ·rw[<-hu,Array.getElem?_toList]
   ·cases hu
  have hne:∀ w:World,(binOp .eql 52 (.slice (some ⟨g,0,none⟩) S.length cap) (.slice none 0 0)).run Tryz.prog w= .ok (.bool false) w:=fun w=>by kernel_rfl
  go_enter Tryz.func82,Tryz.ntmps82
  have bA:Below w.heap.size w (w.alloc (.cells #[] 55)):=(Below.refl _ _).alloc Ol _
  have h8:(w.alloc (.cells #[] 55)).ownsRow w.heap.size 55 3 (.slice (some ⟨w.heap.size,0,none⟩) 0 0) 0 []:=
   ⟨rfl,.inr ⟨w.heap.size,0,#[],rfl,Qc _,Qb w _,Qc _,Qe _,rfl,rfl⟩⟩
  have k5:=h5 _ bA;have h7:Hid _:=bA;clear h6 h5 hg;go_upto_region 3 with fail
  go_wp2_with (at_builtin;refine wpList_append_own_at (w.alloc (.cells #[] 55)) rfl _ _ _ rfl w.heap.size 55 i0 _ 3 24 Tryz.underlying52 k6 k3 k2 k1 rfl Oa (.slice (some ⟨w.heap.size,0,none⟩) 0 0) 0 [] rfl h8 ⟨g,0,none⟩ S.length cap (dC S) rfl hl k5 (aAA S) (by unfold maxLen;omega) Oa Od ?_;intro v' w' h4 h3 h9 k8)
  have FIN:Hid (w'.ownsRow w.heap.size 55 3 v' S.length (dC S)/\Below w.heap.size w w'):=by
   rw[Nat.zero_add,List.nil_append]at h4;refine⟨h4,h3.os.trans h7.out.os,h3.tape.trans h7.out.tape,h3.output.trans h7.out.output,?_,fun k hk=>?_⟩
   ·have h1:=h3.size;have h2:=h7.out.size;omega
   ·exact(h3.block k (Oi h7.out.size) (by show some k≠some w.heap.size;simp;omega)).trans (h7.out.block k hk)
  clear h4 h3 h9 k8;go_wp2;go_ret;exact⟨v',rfl,FIN.out⟩
end
section
open Go.RowKit Go.Lib Go.Deep Go.Maps Go.ChangeMaps Go.MapKept
variable {w0:World} {H pb lb kb vb xb nw nw' c c':Nat} {vS:Value} {K K':Kn} {S:Sl} {F F':Fl} {alive:Bool} {vs:Vr} {u w w':World} {m:Bool} {al fl:List Tr} {lens:Nat->Int} {par:Nat->Option Nat} {na:Nat}
theorem aBS:∀ (S:Sl) (i:Nat) (hi:i < S.length),(dC S)[i*3]?=some (.int .i64 S[i].1)/\(dC S)[i*3+1]?=some (.int .i64 S[i].2)/\(dC S)[i*3+2]?=some (.bool false):=by
 intro S
 induction S with
 |nil=>intro i hi;exact absurd hi Od
 |cons x r ih=>
  obtain⟨a,b⟩:=x;intro i hi;cases i with
  |zero=>exact⟨rfl,rfl,rfl⟩
  |succ n=>
   obtain⟨h1,h2,h3⟩:=ih n (by simp only[List.length_cons]at hi;omega);have e:(n+1)*3=n*3+3:=Oa
   rw[e];exact⟨h1,h2,h3⟩
theorem FlW.start(h:w.ownsRow H 55 3 vS S.length (dC S)):FlW H vS S (fun _=>false) w:=by
 rcases h.2 with⟨rfl,h0⟩|⟨g,cap,cur,rfl,hb,hg,hle,hcap,hsz,h4⟩
 ·exact⟨.inl ⟨List.length_eq_zero_iff.1 h0,none,0,rfl⟩⟩
 ·refine⟨.inr ⟨g,cap,cur,rfl,hb,hg,fun i hi=>?_⟩⟩
  have at_:∀ j v,(dC S)[j]?=some v->cur[j]?=some v:=fun j v hj=>by
   rw[<-h4,List.getElem?_take]at hj
   split at hj
   ·rw[<-hj,Array.getElem?_toList]
   ·cases hj
  obtain⟨h1,h2,h3⟩:=aBS S i hi;exact⟨at_ _ _ h1,at_ _ _ h2,at_ _ _ h3⟩
structure aTK(w0:World)(pb lb kb:Nat)(vS:Value)(S:Sl)(al fl:List Tr)(D:Nat)(T:Fl)(i:Nat)(F:Fl)(nw c:Nat)(K:Kn)(wr:World):Prop where
 res:T=(fl.drop i).foldl (fun F e=>fnA (bCG al) fl e F) F
 sk:SkW w0 pb lb kb vS S F nw c K wr
 cs:c+(fl.length - i)*D<=4611686018427387904
 fu:Fu w0.heap.size w0 wr
theorem aPY(hp:PgX pb al fl w0)(hF:aCS par na al fl){it vA vF v0:Value}{mm:Int}(k2:w0.heap[pb]?=some (.cells (qM it vA vF mm v0) 111 (0,0)))(h6:w0.ownsRow H 55 3 v0 S.length (dC S))(hS:S.length<=1000000)(z0:∀ e∈fl,aH0 S (bG e))(k4:∀ e∈fl,∀ b o a l r,e= .node b o a l r->aD l<=4/\∃ ao cp,bCH l= .slice ao (aD l) cp){D:Nat}(hD:∀ e∈fl,2*mu (bG e)+1<=D)(hb:fl.length*D<=4611686018427387904):
 Calls Tryz.prog 48 #[.pointer (some ⟨pb,0,none⟩)] w0 fun e w'=>∃ vS,e= .returned vS/\FlW w0.heap.size vS S (fl.foldl (fun F e=>fnA (bCG al) fl e F) fun _=>false) w'/\Below w0.heap.size w0 w':=by
 obtain⟨it',vA',vF',mm',vS',H9,h1,_,y7⟩:=hp.prog;rw[k2]at h1;simp only[Option.some.injEq,Obj.cells.injEq,qM]at h1
 obtain rfl:vF=vF':=by
  have h2:=congrArg (fun a:Array Value=>a[2]?) h1.1;exact Oq h2
 have y5:=aR6 h6 hS;have c4:w0.cell? ⟨pb,4,none⟩=some v0:=Og k2 rfl
 have c2:w0.cell? ⟨pb,2,none⟩=some vF:=Og k2 rfl
 obtain⟨aof,cpf,k0,_⟩:=eQ y7.row;subst k0;have z1:∀ w:World,(Instr.makeMap 170 none).run Tryz.prog w= .ok (.map (some w.heap.size)) (w.alloc (.map #[] 0)):=fun w=>run_makeMap _ w;obtain⟨T,hT⟩:∃ T:Fl,T=fl.foldl (fun F e=>fnA (bCG al) fl e F) fun _=>false:=⟨_,rfl⟩;rw[<-hT];have HT:Hid (T=fl.foldl (fun F e=>fnA (bCG al) fl e F) fun _=>false):=hT;have z4:Hid _:=c2;clear hT k2 h1 h6 c2;go_enter Tryz.func48,Tryz.ntmps48
 go_wp2_with fail
 refine y5.mono ?_;rintro e W ⟨vS,rfl,h5,hB⟩;have fl0:=FlW.start (h5.mono Ol);obtain⟨av,cv,rfl,_⟩:=eQ h5;obtain⟨o1,k5⟩:∃ o1:Obj,o1= .cells #[.pointer (some ⟨pb,0,none⟩),.slice av S.length cv,.map (some W.heap.size),.int .i64 0] 173:=⟨_,rfl⟩;have bA:Below W.heap.size W (W.alloc (.map #[] 0)):=(Below.refl _ _).alloc Ol _;have zA:(W.alloc (.map #[] 0)).heap.size=W.heap.size+1:=Od
 obtain⟨kB,bB,zB⟩:=qN (W.alloc (.map #[] 0)) o1;have k8:w0.heap.size<=W.heap.size:=hB.size;have low2:∀ i,i < w0.heap.size->((W.alloc (.map #[] 0)).alloc o1).heap[i]?=w0.heap[i]?:=fun i hi=>(bB.block i Oa).trans ((bA.block i Oa).trans (hB.block i hi));have h7:Pm ((W.alloc (.map #[] 0)).alloc o1) W.heap.size 0 fun _=>none:=(Pm.made W).same (bB.block _ Oa);have y3:FlW w0.heap.size (.slice av S.length cv) S (fun _=>false) ((W.alloc (.map #[] 0)).alloc o1):=(fl0.same fun k _ hk=>bA.block k (Oo hk)).same fun k _ hk=>bB.block k (Oo hk)
 have y0:LkE w0.heap.size (W.heap.size+1) pb W.heap.size (.slice av S.length cv) 0 0 (fun _=>none) (fun _=>none) ((W.alloc (.map #[] 0)).alloc o1):=
  ⟨by rw[<-zA,kB,k5];rfl,h7.mono (Qe _),fun _ _=>rfl,(fun _ _ e=>by cases e),(fun _ _ _ e=>by cases e),fun _ _=>rfl,⟨Oa,k8⟩,Oa⟩
 have S0:SkW w0 pb (W.heap.size+1) W.heap.size (.slice av S.length cv) S (fun _=>false) 0 0 (fun _=>none) ((W.alloc (.map #[] 0)).alloc o1):=⟨⟨_,y0⟩,y3,low2,fun _=>OkS.none⟩;have U0:Fu w0.heap.size w0 ((W.alloc (.map #[] 0)).alloc o1):=((Fs.of hB Ol false).trans ((Fs.of bA k8 false).trans (Fs.of bB Oa false))).both;have L0:∃ F nw c K,aTK w0 pb (W.heap.size+1) W.heap.size (.slice av S.length cv) S al fl D T 0 F nw c K ((W.alloc (.map #[] 0)).alloc o1):=⟨_,_,_,_,HT.out,S0,by simpa using hb,U0⟩;have c2:=aE low2 z4.out;clear y5 h5 fl0 bA kB bB zB low2 h7 y3 y0 S0 U0 hB c4 HT;go_upto_region 2 with fail
 rw[<-k5];clear k5 z1;generalize (W.alloc (.map #[] 0)).alloc o1=wA at*;go_wp2_with fail
 go_loopg [19] fl.length (fun m v wr=>∃ i:Nat,v= .int .i64 i/\i<=fl.length/\fl.length<=i+m/\∃ F nw c K,aTK w0 pb (W.heap.size+1) W.heap.size (.slice av S.length cv) S al fl D T i F nw c K wr)
 case atStart=>exact⟨0,rfl,Qe _,Oa,L0⟩
 case round=>
  clear L0 c2;obtain⟨i,rfl,hle,hmm,F1,nw1,c1,K1,LP⟩:=hrel
  by_cases k7:i < fl.length
  ·have k6:(i:Int) < (fl.length:Int):=Oa
   obtain⟨g9,cp9,cb,o9,a9,l9,x9,y9,z9,pw,qb,k0,y1,e9,y2⟩:=y7.get (j:=i) (e:=fl[i]) (by rw[List.getElem?_eq_getElem k7]);simp only[Value.slice.injEq]at k0;obtain⟨rfl,_,rfl⟩:=k0;have hfew:=hF.few;have h0:fl[i]∈fl:=List.getElem_mem k7;obtain⟨f1,f2,f3,f4⟩:=hF.fns _ h0;obtain⟨p4,k9⟩:=k4 _ h0 _ _ _ _ _ e9;have h4:=z0 _ h0;have z3:=hD _ h0;have h8:=wT (hp.fns _ h0);have z2:=LP.cs;have k1:=LP.res;rw[List.drop_eq_getElem_cons k7,List.foldl_cons]at k1;have k3:fl.length - i=(fl.length - (i+1))+1:=Oa
   rw[k3,Nat.succ_mul]at z2;have y4:fnA (bCG al) fl fl[i] F1=(stA (bCG al) fl qb (eN pw (nW (aD l9))) F1).2:=by rw[e9];rfl
   rw[y4]at k1;have e1:aU fl[i]=pw:=by rw[e9];rfl
   have e2:bG fl[i]=qb:=by rw[e9];rfl
   rw[e1]at f1 f3 h8;rw[e2]at f2 f4 h8 h4 z3;have hG:=((aQ7 (S:=S) (vS:= .slice av S.length cv) hp hF _ qb Ol f4 h8.2 h4).2.2.2.1 f2).1;have h3:=aGE hp y2 p4 k9 f1 h8.1 f3 f2 hG (c:=c1) Oa LP.sk;have h9:=aE LP.sk.low y1;generalize (stA (bCG al) fl qb (eN pw (nW (aD l9))) F1).2=F2 at*;generalize mu qb=mq at*;have y8:Hid _:=k1;have HU:Hid (Fu w0.heap.size w0 wr):=LP.fu;obtain⟨k,rfl⟩:=Oj gk;clear k1 LP hG y4 e1 e2 e9 y2 f1 f2 f3 f4 h4 h8 y1 p4 k9 h0;go_wp2_with fail
   refine h3.mono ?_;rintro e W2 ⟨rfl,nw2,K2,S2,U2⟩
   have fin:∃ i':Nat,Value.int .i64 ((i:Int)+1)= .int .i64 i'/\i'<=fl.length/\fl.length<=i'+k/\∃ F nw c K,aTK w0 pb (W.heap.size+1) W.heap.size (.slice av S.length cv) S al fl D T i' F nw c K W2:=
    ⟨i+1,Od,Oa,Oa,F2,nw2,c1+(2*mq+1),K2,y8.out,S2,Oa,HU.out.trans U2⟩
   clear S2 U2 h3 h9 y8 HU;go_wp2;go_roundg k
   case rel=>exact fin
   case measure=>omega
  ·have k6: ¬(i:Int) < (fl.length:Int):=Oa
   have y6:T=F1:=by
    have:=LP.res;rw[List.drop_eq_nil_of_le Oa]at this;exact this
   obtain⟨E,hE⟩:=LP.sk.lk;obtain⟨c0,c1',c2,c3,cf⟩:=cO hE.blk
   have FIN:Hid (FlW w0.heap.size (.slice av S.length cv) S T wr/\Below w0.heap.size w0 wr):=by
    rw[y6];exact⟨LP.sk.fl,LP.fu.os,LP.fu.tape,LP.fu.output,LP.fu.size,LP.fu.low⟩
   clear LP y6 hE;go_wp2;go_ret;exact⟨_,rfl,FIN.out⟩
end
section
open Go.RowKit Go.Lib Go.Deep Go.Maps Go.ChangeMaps Go.MapKept
theorem aU0(t:Tr):mu (er t)=mu t:=by
 induction t with
 |nil=>rfl
 |node b o a l r ihl ihr=>
  show(if a.tag=12 then 4*(2+mu (er l)+mu (er r))else(if a.tag=7\/a.tag=8\/a.tag=11 then 1 else 0)+mu (er l)+mu (er r))=(if a.tag=12 then 4*(2+mu l+mu r)else(if a.tag=7\/a.tag=8\/a.tag=11 then 1 else 0)+mu l+mu r);rw[ihl,ihr]
theorem aRR:∀ (t t':Tr),Sh t t'->mu t'=mu t:=by
 intro t
 induction t with
 |nil=>
  intro t' h;cases t' with
  |nil=>rfl
  |node=>exact h.elim
 |node b o a l r ihl ihr=>
  intro t' h;cases t' with
  |nil=>exact h.elim
  |node b' o' a' l' r'=>
   obtain⟨_,_,ht,_,_,_,_,_,_,_,hl,hr⟩:=h;show(if a'.tag=12 then 4*(2+mu l'+mu r')else(if a'.tag=7\/a'.tag=8\/a'.tag=11 then 1 else 0)+mu l'+mu r')=(if a.tag=12 then 4*(2+mu l+mu r)else(if a.tag=7\/a.tag=8\/a.tag=11 then 1 else 0)+mu l+mu r);rw[ht,ihl _ hl,ihr _ hr]
def MuL:Tr->Prop
 | .nil=>True
 | .node _ _ _ e r=>MuB e/\MuL r
theorem MuL.of:∀ {L:Tr},(∀ e∈toL L,MuB e)->MuL L:=by
 intro L
 induction L with
 |nil=>intro _;trivial
 |node b o a e r _ ih=>intro h;exact⟨h e (Qj ..),ih fun x hx=>h x (Ql _ hx)⟩
theorem MuL.er:∀ {L:Tr},MuL (YtikffmloeifkpaaGreatDoor.er L)->MuL L:=by
 intro L
 induction L with
 |nil=>intro _;trivial
 |node b o a e r _ ih=>
  intro h;refine⟨?_,ih h.2⟩;rintro b o a l x y z p q rfl;have:=h.1 _ _ _ _ _ _ _ _ _ rfl;rw[aU0]at this;exact this
theorem MuB.sh{e e':Tr}(h:MuB e)(hs:Sh e e'):MuB e':=by
 rintro b o a l x y z p q rfl;cases e with
 |nil=>exact hs.elim
 |node b1 o1 a1 l1 r1=>
  obtain⟨_,_,_,_,_,_,_,_,_,_,_,hr⟩:=hs;cases r1 with
  |nil=>exact hr.elim
  |node x1 y1 z1 p1 q1=>
   obtain⟨_,_,_,_,_,_,_,_,_,_,_,hq⟩:=hr;rw[aRR _ _ hq];exact h _ _ _ _ _ _ _ _ _ rfl
theorem MuL.sh:∀ {L L':Tr},MuL L->Sh L L'->MuL L':=by
 intro L
 induction L with
 |nil=>
  intro L' _ hs;cases L' with
  |nil=>trivial
  |node=>exact hs.elim
 |node b o a e r _ ih=>
  intro L' h hs;cases L' with
  |nil=>exact hs.elim
  |node b' o' a' e' r'=>
   obtain⟨_,_,_,_,_,_,_,_,_,_,hl,hr⟩:=hs;exact⟨h.1.sh hl,ih h.2 hr⟩
variable {F:cM} {its:List Tr}
theorem MuB.itT{e:Tr}(i:Nat)(s:Rs)(h:MuB e):MuB (YtikffmloeifkpaaGreatDoor.itT F its e i s):=by
 cases e with
 |nil=>exact h
 |node b o a l r=>
  show MuB (if a.tag=16 then BT.node b o a l r else fnT F its (.node b o a l r) (s.twice F a i))
  split
  ·exact h
  ·cases r with
   |nil=>exact h
   |node x y z p q=>
    intro b2 o2 a2 l2 x2 y2 z2 p2 q2 he;have he:BT.node _ _ _ _ (BT.node _ _ _ _ (reT F its q _))=BT.node b2 o2 a2 l2 (BT.node x2 y2 z2 p2 q2):=he;simp only[BT.node.injEq]at he;rw[<-he.2.2.2.2.2.2.2.2,aRR _ _ (dJ _ _ _ _)];exact h _ _ _ _ _ _ _ _ _ rfl
theorem MuL.itsT:∀ {L:Tr} (i:Nat) (s:Rs),MuL L->MuL (YtikffmloeifkpaaGreatDoor.hY F its L i s):=by
 intro L
 induction L with
 |nil=>intro _ _ _;trivial
 |node b o a e r _ ih=>intro i s h;exact⟨h.1.itT i s,ih _ _ h.2⟩
theorem MuL.kind{k:Nat}:∀ {L:Tr},MuL L->∀ e∈aF k L,MuB e:=by
 intro L
 induction L with
 |nil=>intro _ e he;cases he
 |node b o a x r _ ih=>
  intro h e he
  by_cases hk:bN x=k
  ·rw[show aF k (.node b o a x r)=x::aF k r from if_pos hk]at he;rcases List.mem_cons.1 he with rfl|he
   ·exact h.1
   ·exact ih h.2 e he
  ·rw[show aF k (.node b o a x r)=aF k r from if_neg hk]at he;exact ih h.2 e he
theorem aTV{s:ByteArray}(hc:(eZ s).1=0):MuL (bCF (rdT s)):=by
 unfold eZ at hc
 by_cases h4:4000 < s.size
 ·rw[if_pos h4]at hc;cases hc
 rw[if_neg h4]at hc
 by_cases h1:(dN s).code=0
 ·rw[Oh]at hc
  by_cases h2:(bP (aW s)).1.code=0
  ·have h0:=mV h1 Oa;have he:=lI s;have hm:=aE2 h0 he (gF he (bY (aW s)) 6) (pH h0 he (bY (aW s)) 6) (aNF h0 he (bY (aW s))).2.2.2.1 (bY (aW s)) (bY (aW s)) rd0 (by simp[aW,rd0]) rfl h2
   have e:bCF (rdT s)=(aJ (aW s) (iH (aW s) (bY (aW s)) 6) (bY (aW s)) (bY (aW s)) rd0).2:=by
    show bCF (gE _)=_;unfold gE
    split
    ·rename_i h;exact h.symm
    ·rfl
   rw[e];exact MuL.of hm
  ·rw[if_pos h2]at hc;exact absurd hc h2
 ·rw[if_pos h1]at hc;exact absurd hc h1
theorem oC.mu{s:ByteArray}{t:Tr}(hg:oC s t)(he:er t=rdT s)(hc:(eZ s).1=0){e:Tr}(hm:e∈gG t):MuB e:=by
 have h1:=aTV hc;rw[<-he,gT]at h1;have h2:=h1.er;have hL:=hg.ws.elems Ot;have h3:=h2.sh (bCV (bCF t) 0 0 hL);have h4:MuL (bCF (dY t)):=by rw[jJ hg.ws];exact h3.itsT _ _
 unfold gG at hm;rw[hg.el]at hm;exact(h4.sh (gO _ _ _)).kind e hm
end
section
open Go.RowKit Go.Lib Go.Deep Go.Maps Go.ChangeMaps Go.MapKept
def fS(s:ByteArray):Sl:=siR (cR (rdT s)) (dY (rdT s)) []
def fN(t:Tr):Fl:=(gG t).foldl (fun F e=>fnA (bCG (qO t)) (gG t) e F) fun _=>false
theorem aHD{s:ByteArray}{t:Tr}(hg:oC s t){e:Tr}(he:e∈gG t):aH0 (siR (cR t) (dY t) []) (bG e):=by
 intro k hk;have h8:=(lM hg.ws).1;obtain⟨h5,h6⟩:=aDN (F0:=cR t) (dY t) 8 [] h8
 have h0:∀ j∈bEK (bCF (siT (cR t) (dY t) [])),j∈bEK (siT (cR t) (dY t) []):=fun j hj=>by
  cases hT:siT (cR t) (dY t) []with
  |nil=>rw[hT]at hj;exact hj
  |node b o a l r=>rw[hT]at hj;exact fR hj
 have h4:(bEK (bCF (siT (cR t) (dY t) []))).Nodup:=by
  cases hT:siT (cR t) (dY t) []with
  |nil=>exact List.nodup_nil
  |node b o a l r=>rw[hT]at h5;exact(fU h5).1
 have h1:=(yW 17 _ h4).2 e he;obtain⟨h2,h3⟩:=h6 k (h0 k (h1.2 k (tW e k hk)));simp only[List.length_nil]at h2;exact⟨k.toNat,Oa,Oa⟩
theorem aHK{s:ByteArray}(hc:(eZ s).1=0):s.size<=4000/\(dN s).code=0/\(bP (aW s)).1.code=0:=by
 unfold eZ at hc
 by_cases h4:4000 < s.size
 ·rw[if_pos h4]at hc;cases hc
 rw[if_neg h4]at hc
 by_cases h1:(dN s).code=0
 ·rw[Oh]at hc
  by_cases h2:(bP (aW s)).1.code=0
  ·exact⟨Oa,h1,h2⟩
  ·rw[if_pos h2]at hc;exact absurd hc h2
 ·rw[if_pos h1]at hc;exact absurd hc h1
theorem aAS{H g cap pb:Nat}{s:ByteArray}{t:Tr}{vA vF vS:Value}{w:World}(h:Pg0 H g cap pb s t vA vF vS w)(hc:(eZ s).1=0)(hg:oC s t):(siR (cR t) (dY t) []).length<=1000000:=by
 obtain⟨h4,h1,h2⟩:=aHK hc;have h0:=mV h1 Oa;have h3:=aRN (aBN h1) (by have:=(qA h0 (lI s) h.toks.pos h2).2;exact this);have h8:ps t=ps (bP (aW s)).2:=by rw[<-aRP t,h.er];rfl
 have h5:=lS (cR t) (dY t) [];rw[(lM hg.ws).2.1,h8]at h5;have h6:=h3.2;have h7:=h.toks.few;simp only[List.length_nil]at h5;omega
theorem aTI{H g cap pb:Nat}{s:ByteArray}{t:Tr}{vA vF vS:Value}{w:World}(h:Pg0 H g cap pb s t vA vF vS w)(hc:(eZ s).1=0):
 Calls Tryz.prog 48 #[.pointer (some ⟨pb,0,none⟩)] w fun e w'=>∃ v,e= .returned v/\FlW w.heap.size v (siR (cR t) (dY t) []) (fN t) w'/\Below w.heap.size w w':=by
 have hg:=good h.er hc
 have hlen:(gG t).length<=10000:=by
  rw[hg.len];have h1:=aEA 17 (bCF t);have h2:=fB Ot hg.ws;rw[aT]at h2;omega
 refine aPY (par:=mI t) (na:=oU t) (D:=10737418240001) (h.pgx hg) hg.flok h.prog h.sites (aAS h hc hg) (fun e he=>aHD hg he) (fun e he b o a l r e1=>?_) (fun e he=>?_) Oa
 ·obtain⟨b',o',a',l',x,y,z,p,q,e2,h17,hl,_⟩:=hg.fl he;have h3:=he;unfold gG at h3;rw[hg.el]at h3;obtain⟨e0,S0,h0,e3⟩:=mM hg.si h3;obtain⟨b4,o4,a4,l4,x4,y4,z4,p4,q4,e4,_,_,_,_,h5⟩:=hg.ok.fns e0 h0;have hn:gJ e=gJ e0:=by rw[e3,yR]
  rw[e1]at e2;cases e2;rw[e1,e4]at hn;have hn:aD l=aD l4:=hn;exact⟨Oa,hl.lstval Oa⟩
 ·obtain⟨b,o,a,l,x,y,z,p,q,rfl,_⟩:=hg.fl he;have:=hg.mu h.er hc he _ _ _ _ _ _ _ _ _ rfl;show 2*mu q+1<=_;omega
theorem aL0{ab:Nat}{s:ByteArray}{w:World}(h:PgW ab s w)(hc:(eZ s).1=0):Calls Tryz.prog 27 #[.pointer (some ⟨ab,0,none⟩)] w fun e w'=>∃ v t,er t=rdT s/\e= .returned v/\FlW w.heap.size v (siR (cR t) (dY t) []) (fN t) w'/\Below w.heap.size w w':=by
 obtain⟨H,g,cap,pb,t,vA,vF,vS,h0,hp⟩:=h.ex;have hR:=aTI hp hc
 have c1:w.cell? ⟨ab,1,none⟩=some (.pointer (some ⟨pb,0,none⟩)):=by
  rw[cell_of_row _ _ _ _ _ _ h0];rfl
 have hN:=yZ ab pb _ c1;have h1:Hid (er t=rdT s):=hp.er;clear hp h0;go_enter Tryz.func27,Tryz.ntmps27
 go_wp2_with fail
 refine hN.mono ?_;rintro e w' ⟨rfl,rfl⟩;clear hN;go_wp2_with fail
 refine hR.mono ?_;rintro e W2 ⟨v,rfl,hf,hb⟩;have FIN:Hid (FlW w.heap.size v (siR (cR t) (dY t) []) (fN t) W2/\Below w.heap.size w W2):=⟨hf,hb⟩;clear hf hb hR;go_wp2;go_ret;exact⟨v,t,h1.out,rfl,FIN.out⟩
variable {s:ByteArray} {t:Tr}
theorem aCX{F:List Tr}(e:Tr)(S:Sl):aD (aU (siT F e S))=aD (aU e):=by
 cases e with
 |nil=>rfl
 |node b o a l r=>
  cases r with
  |nil=>rfl
  |node x y z p q=>exact yV p _
theorem oC.idx(h:oC s t)(j:Nat):(gG t)[j]?=none/\(cR t)[j]?=none\/∃ e0 S',(cR t)[j]?=some e0/\(gG t)[j]?=some (siT (cR t) e0 S'):=by
 obtain⟨f,hf⟩:=yX (F:=cR t) 17 (bCF (dY t)) [] h.si;unfold gG;rw[h.el,hf,List.getElem?_map,List.getElem?_zipIdx];show(Option.map _ (Option.map _ (cR t)[j]?)=none/\_)\/_;cases he:(cR t)[j]? with
 |none=>exact .inl ⟨rfl,rfl⟩
 |some e0=>
  have h0:(aF 17 (bCF (dY t)))[j]?=some e0:=he;exact .inr ⟨e0,f (0+j),rfl,by rw[h0];rfl⟩
theorem tZ.kind{fl:List Tr}{k:Nat}:∀ {L:Tr},tZ fl L->∀ e∈aF k L,tZ fl e:=by
 intro L
 induction L with
 |nil=>intro _ e he;cases he
 |node b o a x r _ ih=>
  intro h e he
  by_cases hk:bN x=k
  ·rw[show aF k (.node b o a x r)=x::aF k r from if_pos hk]at he;rcases List.mem_cons.1 he with rfl|he
   ·exact h.1
   ·exact ih h.2.1 e he
  ·rw[show aF k (.node b o a x r)=aF k r from if_neg hk]at he;exact ih h.2.1 e he
theorem tZ.body{fl:List Tr}{e:Tr}(h:tZ fl e):tZ fl (bG e):=by
 cases e with
 |nil=>exact h
 |node b o a l r=>
  cases r with
  |nil=>trivial
  |node x y z p q=>exact h.2.1.2.1
theorem oC.fns(h:oC s t){Fg:Fl}(h7:∀ k:Nat,k < (siR (cR t) (dY t) []).length->Fg k=fN t k):∀ e∈gG t,FnS (mI t) (oU t) (bCG (qO t)) (gG t) Fg e:=by
 intro e he;obtain⟨f1,f2,f3,f4⟩:=h.flok.fns e he;have h8:=(lM h.ws).1;obtain⟨h5,_⟩:=aDN (F0:=cR t) (dY t) 8 [] h8
 have h3:(bEK (bCF (siT (cR t) (dY t) []))).Nodup:=by
  cases hT:siT (cR t) (dY t) []with
  |nil=>exact List.nodup_nil
  |node b o a l r=>rw[hT]at h5;exact(fU h5).1
 have h6:=yW 17 _ h3
 have h4:tZ (gG t) (siT (cR t) (dY t) []):=by
  refine aTS (F0:=cR t) (fl':=gG t) (fun k=>?_) (fun k hk=>?_) _ _
  ·rw[List.getD_eq_getElem?_getD];cases hi:(gG t)[k.toNat]? with
   |none=>exact .inr Ov
   |some e'=>exact(h.flok.fns e' (Qi hi)).1
  ·rw[List.getD_eq_getElem?_getD];rcases h.idx k.toNat with⟨h1,_⟩|⟨e0,S',h1,h2⟩
   ·rw[h1];rfl
   ·rw[h2];show aD (aU (siT (cR t) e0 S'))=0;rw[aCX];unfold mG at hk;rw[h1]at hk;cases e0 with
    |nil=>rfl
    |node b o a l r=>
     cases r with
     |nil=>rfl
     |node x y z p q=>exact hk
 have h0:tZ (gG t) (bCF (siT (cR t) (dY t) [])):=by
  cases hT:siT (cR t) (dY t) []with
  |nil=>trivial
  |node b o a l r=>rw[hT]at h4;exact h4.1
 refine⟨f2,f1,f4,f3,(h0.kind e he).body,aGV (h6.2 e he).1,?_⟩;obtain⟨F1,h1⟩:=aKD (lens:=bCG (qO t)) (fl:=gG t) (gG t) (fun _=>false) h6.1 e he;refine⟨F1,fun k hk=>?_⟩;obtain⟨j,rfl,hj⟩:=aHD h he k hk;rw[h7 j hj];exact h1 j hk
theorem oC.pars(h:oC s t)(j n:Nat)(hj:mI t j=some n):∃ e,(gG t)[j]?=some e/\gJ e=n:=by
 have h0:((aF 17 (bCF (dY t))).map gJ)[j]?=some n:=by rw[h.ok.par];exact hj
 rw[List.getElem?_map]at h0;rcases h.idx j with⟨_,h1⟩|⟨e0,S',h1,h2⟩
 ·unfold cR at h1;rw[h1]at h0;cases h0
 ·unfold cR at h1;rw[h1]at h0;simp only[Option.map_some,Option.some.injEq]at h0;exact⟨_,h2,by rw[yR];exact h0⟩
end
section
open Go.RowKit Go.Lib Go.Deep Go.Maps Go.ChangeMaps Go.MapKept
variable {lens:Nat->Int} {fl:List Tr} {alive:Bool} {vs:Vr}
theorem aF7(t:Tr):iK vs (er t)=iK vs t:=by cases t<;>rfl
theorem aDH(t:Tr):cV (er t)=cV t:=by
 induction t with
 |nil=>rfl
 |node b o a l q ihl _=>simp only[er,cV,ihl]
theorem aIR(t:Tr):eU vs (er t)=eU vs t:=by
 induction t with
 |nil=>rfl
 |node b o a e q ihe ihq=>
  cases e with
  |nil=>
   simp only[er,eU]
  |node b2 o2 c x y=>
   simp only[er]at ihe ihq ⊢;simp only[eU]at ihe ⊢;simp only[ihe,ihq,aF7]
theorem wL(t:Tr):∀ F,exA lens (fl.map er) alive vs (er t) F=exA lens fl alive vs t F:=by
 induction t with
 |nil=>intro F;rfl
 |node b o a l q ihl ihq=>intro F;simp only[er,exA,ihl,ihq,xS,mT,aIR]
theorem aON(t:Tr):∀ s F,cdA lens (fl.map er) (er t) s F=cdA lens fl t s F:=by
 induction t with
 |nil=>intro s F;rfl
 |node b o a l q ihl ihq=>intro s F;simp only[er,cdA,wL,aDH,ihl,ihq]
theorem aMK(t:Tr):dR (er t)=dR t:=by
 funext i
 induction t with
 |nil=>rfl
 |node b o a l q ihl ihq=>simp only[er,dR,ihl,ihq]
theorem aIL(t:Tr):∀ s,eN (er t) s=eN t s:=by
 induction t with
 |nil=>intro s;rfl
 |node b o a e q ihe ihq=>
  intro s;cases e with
  |nil=>
   simp only[er,eN]
  |node b2 o2 c x y=>
   simp only[er]at ihe ihq ⊢;simp only[eN]at ihe ⊢;simp only[ihe,ihq,aF7,aDH]
theorem aSA:∀ (n:Nat) (t:Tr),szT t<=n->∀ s F,stA lens (fl.map er) (er t) s F=stA lens fl t s F:=by
 intro n
 induction n with
 |zero=>intro t h;cases t<;>simp[szT]at h
 |succ n ih=>
  intro t h0 s F;cases t with
  |nil=>rfl
  |node b o a l q=>
   have hl:szT l<=n/\szT q<=n:=by simp only[szT]at h0;omega
   show stA lens (fl.map er) (.node 0 0 a (er l) (er q)) s F=_
   by_cases t20:a.tag=20\/a.tag=18
   ·rw[qT t20,qT t20];exact ih l hl.1 s F
   by_cases t15:a.tag=15
   ·rw[sY t15,sY t15,ih l hl.1];exact ih q hl.2 _ _
   by_cases t9:a.tag=9
   ·rw[yF t9,yF t9,wL]
   by_cases t10:a.tag=10
   ·rw[tD t10,tD t10,wL,wL]
   by_cases t11:a.tag=11
   ·cases q with
    |nil=>rw[xM t11];exact xM t11
    |node b2 o2 z x y=>
     have hs:szT x<=n/\szT y<=n:=by have:=hl.2;simp only[szT]at this;omega
     rw[aUW t11];show stA lens (fl.map er) (.node 0 0 a (er l) (.node 0 0 z (er x) (er y))) s F=_;rw[aUW t11,aON,ih x hs.1,ih y hs.2]
   by_cases t12:a.tag=12
   ·rw[aUV t12,aUV t12,aMK];rw[show cdA lens (fl.map er) (er l)=cdA lens fl l from funext fun s=>funext fun F=>aON l s F,show stA lens (fl.map er) (er q)=stA lens fl q from funext fun s=>funext fun F=>ih q hl.2 s F]
   by_cases t13:a.tag=13
   ·rw[aUU t13,aUU t13,wL]
   by_cases t14:a.tag=14
   ·rw[sZ t14,sZ t14,wL]
   ·rw[aBR ⟨Oa,Oa,t15,Oa⟩,aBR ⟨Oa,Oa,t15,Oa⟩]
theorem aSZ(e:Tr)(F:Fl):fnA lens (fl.map er) (er e) F=fnA lens fl e F:=by
 unfold fnA;rw[wP,mT,aHW,aSA _ _ Ol,aIL]
theorem aQV(t:Tr):gG (er t)=(gG t).map er:=by unfold gG;rw[uX,uJ,aFR,aFS,gT,uP]
theorem aRE(t:Tr):qO (er t)=(qO t).map er:=by unfold qO;rw[uX,uJ,aFR,aFS,gT,uP]
theorem aIT(t:Tr):fN (er t)=fN t:=by
 unfold fN;rw[aQV,aRE,aB1,List.foldl_map];simp only[aSZ]
theorem yH{s:ByteArray}{t:Tr}(h:er t=rdT s):siR (cR t) (dY t) []=fS s/\fN t=fN (rdT s):=by
 refine⟨?_,by rw[<-h,aIT]⟩;unfold fS;rw[<-h,uX,uJ,aMI,aMJ]
end
section
open Go.RowKit Go.Lib Go.Deep Go.Maps Go.ChangeMaps Go.MapKept
theorem tY{ab:Nat}{s:ByteArray}{w:World}(h:PgW ab s w)(hc:(eZ s).1=0):Calls Tryz.prog 27 #[.pointer (some ⟨ab,0,none⟩)] w fun e w'=>∃ v,e= .returned v/\FlW w.heap.size v (fS s) (fN (rdT s)) w'/\Below w.heap.size w w':=by
 refine(aL0 h hc).mono ?_;rintro e w' ⟨v,t,he,rfl,hf,hb⟩;obtain⟨e1,e2⟩:=yH he;rw[e1,e2]at hf;exact⟨v,rfl,hf,hb⟩
theorem FlW.row{H:Nat}{v:Value}{S:Sl}{F:Fl}{w:World}(h:FlW H v S F w)(hn:0 < S.length):∃ g cp,v= .slice (some ⟨g,0,none⟩) S.length cp/\H<=g/\g < w.heap.size/\∀ i (hi:i < S.length),w.cell? ⟨g,i*3,none⟩=some (.int .i64 S[i].1)/\w.cell? ⟨g,i*3+1,none⟩=some (.int .i64 S[i].2)/\w.cell? ⟨g,i*3+2,none⟩=some (.bool (F i)):=by
 rcases h.ex with⟨rfl,_⟩|⟨g,cp,cur,h1,h2,h3,h4⟩
 ·exact absurd hn Od
 ·refine⟨g,cp,h1,h2,(Oo h3),fun i hi=>?_⟩;obtain⟨e1,e2,e3⟩:=h4 i hi;exact⟨Og h3 e1,Og h3 e2,Og h3 e3⟩
theorem FlW.next{H:Nat}{v:Value}{S:Sl}{F:Fl}{w w':World}(h:FlW H v S F w)(hw:∀ i,i < w.heap.size->w'.heap[i]?=w.heap[i]?):FlW H v S F w':=h.same fun k _ hk=>hw k (Oo hk)
end
end Go.Proofs.YtikffmloeifkpaaGreatDoor
