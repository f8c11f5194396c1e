/- Contracts. -/
import Derived.Test.YtikffmloeifkpaaGreatDoorR21
import Derived.Deep.CutRange
set_option maxHeartbeats 8000000
set_option maxRecDepth 100000
namespace Go.Proofs.YtikffmloeifkpaaGreatDoor
open Go.RowKit Go.Lib Go.Deep
theorem bRO(s:ByteArray)(h:0 < s.size):(chQ s).2=0/\(chQ s).1=0\/(1<=(chQ s).2/\(chQ s).2<=s.size/\0<=(chQ s).1/\∃ n:Nat,(chQ s).2=n):=by
 grind[chQ,Utf8.decode]
def nmL(u:ByteArray):Nat->Nat->Nat->Nat × Nat
 |0,a,n=>(a,n)
 |k+1,a,n=>if a < u.size then(if(chQ (u.extract a u.size)).2=0\/(oK (chQ (u.extract a u.size)).1=false/\(kZ (chQ (u.extract a u.size)).1=false\/n=0))then(a,n)else nmL u k (a+(chQ (u.extract a u.size)).2.toNat) (n+1))else(a,n)
def nmQ(u:ByteArray):Nat × Nat:=nmL u (u.size+1) 0 0
theorem bZ6(u:ByteArray)(w:World)(hz:u.size<=4000):Calls Tryz.prog 164 #[.string u] w fun e i=>e= .returned (.tuple #[Qc (nmQ u).1,Qc (nmQ u).2])/\w=i:=by
 have a4:(u.size:Int)<=4000:=Oa
 obtain⟨R,d⟩:∃ R,R=nmQ u:=⟨_,rfl⟩;rw[<-d];have y:Hid (R=nmL u (u.size+1) 0 0):=d;clear d;go_enter Tryz.func164,Tryz.ntmps164
 go_wp2_with fail
 go_loopg [4,5,6,7,8,9] (u.size+1) (fun q V W x6 x7 x8 x9 wr=>∃ a n:Nat,V= Qc a/\W= Qc n/\a<=u.size/\n<=a/\u.size+1<=a+q/\R=nmL u q a n/\w=wr)
 case atStart=>exact⟨0,0,rfl,rfl,Qn _,Ql _,Oa,y.o,rfl⟩
 case round=>
  clear y;obtain⟨a,n,rfl,rfl,O,E,C,d,rfl⟩:=hrel;obtain⟨g,rfl⟩:∃ q,gk=q+1:=⟨gk - 1,Oa⟩
  by_cases o:a < u.size
  ·have N:(a:Int) < (u.size:Int):=Oa
   have a1:0<=(a:Int)/\(a:Int)<=(u.size:Int):=Oa
   have hsz:(u.extract a u.size).size=u.size - a:=by rw[ByteArray.size_extract];omega
   have H:=bYE (u.extract a u.size) w Oa Oa;have A:=bRO (u.extract a u.size) Oa;unfold nmL at d;rw[if_pos o]at d;generalize chQ (u.extract a u.size)=c at*;obtain⟨v,f⟩:=c;have F:=bY5 v w;have G:=bZG v w;have t:Hid _:=d;have M:Hid _:=A;have L:Hid (a < u.size/\n<=a/\u.size+1<=a+(g+1)/\(u.extract a u.size).size=u.size - a):=⟨o,E,C,hsz⟩;clear d A O E C hsz;go_wp2_with fail
   refine H.mono ?_;rintro e i ⟨rfl,rfl⟩;clear H;go_wp2_with fail
   refine F.mono ?_;rintro e i ⟨rfl,rfl⟩;clear F;go_wp2_with fail
   refine G.mono ?_;rintro e i ⟨rfl,rfl⟩;clear G;have I:=M.o
   by_cases b:f=0\/(oK v=false/\(kZ v=false\/n=0))
   ·have l:Hid (R=(a,n)):=t.o.t (if_pos b);go_upto_region 7 with fail
    go_cut [8,9,38]from 10 to 45 (fun _ _ x i=>x= .bool true/\w=i)
    case first=>
     by_cases k:f=0
     ·have J:(f==0)=true:=by simp[k]
      clear b k;go_wp2;go_meet
      case rel=>exact⟨rfl,rfl⟩
     ·have J:(f==0)=false:=by simp[k]
      obtain⟨h1,r⟩:=b.resolve_left k;cases p:kZ v
      ·clear b k r;go_wp2;go_meet
       case rel=>exact⟨rfl,rfl⟩
      ·have D:n=0:=r.resolve_left (by simp[p]);have U:((n:Int)==0)=true:=by simp[D]
       clear b k r D;go_wp2;go_meet
       case rel=>exact⟨rfl,rfl⟩
    case rest=>
     obtain⟨rfl,rfl⟩:=hcut;clear b;go_wp2;go_ret2
     rw[l.o];exact⟨rfl,rfl⟩
   ·have l:Hid (R=nmL u g (a+f.toNat) (n+1)):=t.o.t (if_neg b);go_upto_region 7 with fail
    go_cut [8,9,38]from 10 to 45 (fun _ _ x i=>x= .bool false/\w=i)
    case first=>
     have J:(f==0)=false:=by simp;exact fun h=>b (.l h)
     cases hl:oK v
     ·have p:kZ v=true:=by
       cases p:kZ v
       ·exact absurd (.r ⟨hl,.l p⟩) b
       ·rfl
      have U:((n:Int)==0)=false:=by simp;exact fun h=>b (.r ⟨hl,.r h⟩)
      clear b;go_wp2;go_meet
      case rel=>exact⟨rfl,rfl⟩
     ·clear b;go_wp2;go_meet
      case rel=>exact⟨rfl,rfl⟩
    case rest=>
     obtain⟨rfl,rfl⟩:=hcut;have B: ¬f=0:=fun h=>b (.l h);obtain⟨Q,S,T,P,s⟩:=I.resolve_left (fun h=>B h.1);have hI:=L.o
     have z:∃ j m:Nat,Qc ((a:Int)+f)= Qc j/\Qc ((n:Int)+1)= Qc m/\j<=u.size/\m<=j/\u.size+1<=j+g/\R=nmL u g j m:=
      ⟨a+P,n+1,by rw[s];simp,Od,Oa,Oa,Oa,by rw[l.o,s];rfl⟩
     have K:Hid _:=z;have a3:IntKind.i64.wrap ((a:Int)+f)=(a:Int)+f:=IntWalk.i64_in _ Oa;have a2:IntKind.i64.wrap ((n:Int)+1)=(n:Int)+1:=IntWalk.i64_in _ Oa;clear b B Q S T s z I;go_wp2;go_roundg g
     case rel=>
      obtain⟨j,m,X,Y,Z,z4,z5,z6⟩:=K.o;exact⟨j,m,X,Y,Z,z4,z5,z6,rfl⟩
     case measure=>omega
  ·have N: ¬(a:Int) < (u.size:Int):=Oa
   unfold nmL at d;rw[if_neg o]at d;have l:Hid (R=(a,n)):=d;clear d o;go_wp2;go_ret2
   rw[l.o];exact⟨rfl,rfl⟩
def bQL:ByteArray:=⟨#[61,61,32,33,61,32,60,61,32,62,61,32,38,38,32,124,124]⟩
def bQD:ByteArray:=⟨#[40,32,41,32,123,32,125,32,91,32,93,32,44,32,59,32,61,32,60,32,62,32,43,32,45,32,42,32,47,32,37]⟩
def lgB(u:ByteArray):Bool:=decide (1 < u.size)&&(decide ((u.get! 0).toNat≠32)&&(decide ((u.get! 1).toNat≠32)&&inQ (u.extract 0 2) bQL))
def shB(u:ByteArray):Bool:=decide ((u.get! 0).toNat≠32)&&inQ (u.extract 0 1) bQD
def sgQ(u:ByteArray):ByteArray:=if lgB u=true then u.extract 0 2 else if shB u=true then u.extract 0 1 else⟨#[]⟩
theorem cAB(u:ByteArray)(w:World)(n:0 < u.size)(s:u.size<=4000):Calls Tryz.prog 166 #[.string u] w fun e b=>e= .returned (.string (sgQ u))/\w=b:=by
 have d:=bGP n;have p:(0:Int) < (u.size:Int):=Oa
 have q:(1:Int)<=(u.size:Int):=Oa
 have i:=bZC (u.extract 0 2) bQL w Ob;have j:=bZC (u.extract 0 1) bQD w Ob;obtain⟨R,h⟩:∃ R,R=sgQ u:=⟨_,rfl⟩;rw[<-h];have f:Hid _:=h;unfold bQL at i;unfold bQD at j;clear h;go_enter Tryz.func166,Tryz.ntmps166
 go_upto_region 1 with fail
 go_cut [20]from 3 (fun x b=>x= .bool (lgB u)/\w=b)
 case first=>
  by_cases c1:1 < u.size
  ·have l:decide ((u.size:Int) > 1)=true:=decide_eq_true Oa;have r:(1:Int) < (u.size:Int):=Oa
   have o:(2:Int)<=(u.size:Int):=Oa
   have k:=bGP c1
   by_cases c2:u[0].toNat=32
   ·have g:((u[0].toNat:Int)!=32)=false:=by simp[c2]
    have a:Hid (lgB u=false):=by rw[Hid];unfold lgB;rw[d];simp[c2]
    clear c2;go_wp2;go_meet
    case rel=>exact⟨by rw[a.o]<;>rfl,rfl⟩
   ·have g:((u[0].toNat:Int)!=32)=true:=by simp;omega
    by_cases c3:u[1].toNat=32
    ·have m:((u[1].toNat:Int)!=32)=false:=by simp[c3]
     have a:Hid (lgB u=false):=by rw[Hid];unfold lgB;rw[k];simp[c3]
     clear c2 c3;go_wp2;go_meet
     case rel=>exact⟨by rw[a.o]<;>rfl,rfl⟩
    ·have m:((u[1].toNat:Int)!=32)=true:=by simp;omega
     have a:Hid (lgB u=inQ (u.extract 0 2) bQL):=by rw[Hid];unfold lgB;rw[d,k];simp[c1,c2,c3]
     clear c2 c3;go_wp2_with fail
     refine i.mono ?_;rintro e b ⟨rfl,rfl⟩;go_wp2;go_meet
     case rel=>exact⟨by rw[a.o]<;>rfl,rfl⟩
  ·have l:decide ((u.size:Int) > 1)=false:=decide_eq_false Oa;have a:Hid (lgB u=false):=by rw[Hid];unfold lgB;simp[c1]
   clear c1;go_wp2;go_meet
   case rel=>exact⟨by rw[a.o]<;>rfl,rfl⟩
 case rest=>
  obtain⟨rfl,rfl⟩:=hcut;clear i;cases hl:lgB u
  ·go_upto_region 3 with fail
   go_cut [30]from 3 (fun x b=>x= .bool (shB u)/\w=b)
   case first=>
    by_cases c2:u[0].toNat=32
    ·have g:((u[0].toNat:Int)!=32)=false:=by simp[c2]
     have a:Hid (shB u=false):=by rw[Hid];unfold shB;rw[d];simp[c2]
     clear c2;go_wp2;go_meet
     case rel=>exact⟨by rw[a.o]<;>rfl,rfl⟩
    ·have g:((u[0].toNat:Int)!=32)=true:=by simp;omega
     have a:Hid (shB u=inQ (u.extract 0 1) bQD):=by rw[Hid];unfold shB;rw[d];simp[c2]
     clear c2;go_wp2_with fail
     refine j.mono ?_;rintro e b ⟨rfl,rfl⟩;go_wp2;go_meet
     case rel=>exact⟨by rw[a.o]<;>rfl,rfl⟩
   case rest=>
    obtain⟨rfl,rfl⟩:=hcut;clear j;cases hs:shB u
    ·have c:Hid (R=⟨#[]⟩):=f.o.t (by unfold sgQ;rw[hl,hs];rfl);clear hl hs;go_wp2;go_ret;rw[c.o];exact⟨rfl,rfl⟩
    ·have c:Hid (R=u.extract 0 1):=f.o.t (by unfold sgQ;rw[hl,hs];rfl);clear hl hs;go_wp2;go_ret;rw[c.o];exact⟨rfl,rfl⟩
  ·have c:Hid (R=u.extract 0 2):=f.o.t (by unfold sgQ;rw[hl];rfl)
   have o:(2:Int)<=(u.size:Int):=by
    unfold lgB at hl;simp only[Bool.and_eq_true,decide_eq_true_eq]at hl;omega
   clear hl;go_wp2;go_ret;rw[c.o];exact⟨rfl,rfl⟩
def bRV:ByteArray:=⟨#[97,114,114,32,102,110,32,119,104,101,114,101,32,108,101,116,32,105,102,32,101,108,115,101,32,119,104,105,108,101,32,114,101,116,117,114,110,32,111,117,116]⟩
def dgL(u:ByteArray):Nat->Nat->Int->Nat × Int × Bool
 |0,k,v=>(k,v,false)
 |f+1,k,v=>if k < u.size/\48<=(u.get! k).toNat/\(u.get! k).toNat<=57 then(if 999999999 < 10*v+((u.get! k).toNat - 48)then(k,v,true)else dgL u f (k+1) (10*v+((u.get! k).toNat - 48)))else(k,v,false)
def dgQ(u:ByteArray):Nat × Int × Bool:=dgL u (u.size+1) 0 0
def bMI(s:ByteArray)(p:Nat):Tok × Nat × Int:=
 let u:=s.extract p s.size
 if 0 < (nmQ u).1 then(⟨if inQ (u.extract 0 (nmQ u).1) bRV then 3 else 1,p,u.extract 0 (nmQ u).1,0⟩,(nmQ u).1,if 12 < (nmQ u).2 then 1 else 0)
 else if(dgQ u).2.2 then(⟨0,0,⟨#[]⟩,0⟩,0,3)
 else if 0 < (dgQ u).1 then(⟨2,p,u.extract 0 (dgQ u).1,(dgQ u).2.1⟩,(dgQ u).1,0)
 else if sgQ u=⟨#[]⟩then(⟨0,0,⟨#[]⟩,0⟩,0,1)
 else(⟨3,p,sgQ u,0⟩,(sgQ u).size,0)
def cAW(t:Tok):Value:= .agg #[Qc t.d,Qc t.e,.string t.f,Qc t.a]
theorem bZR(u:ByteArray):∀ (k a n:Nat),a<=u.size->(nmL u k a n).1<=u.size:=by
 intro k
 induction k with
 |zero=>intro a n h;exact h
 |succ k ih=>
  grind[nmL,ByteArray.size_extract,bRO]
theorem bOZ{w W:World}{a b c d a' b' c' d':Value}{g:TypeId}(e:W.1[w.1.size]?=some (Qf #[a,b,c,d] g))(f:Below w.1.size w W):
 (((((W.setCell ⟨w.1.size,0,none⟩ a').setCell ⟨w.1.size,1,none⟩ b').setCell ⟨w.1.size,2,none⟩ c').setCell ⟨w.1.size,3,none⟩ d').cell? ⟨w.1.size,0,none⟩=some a'/\((((W.setCell ⟨w.1.size,0,none⟩ a').setCell ⟨w.1.size,1,none⟩ b').setCell ⟨w.1.size,2,none⟩ c').setCell ⟨w.1.size,3,none⟩ d').cell? ⟨w.1.size,1,none⟩=some b'/\((((W.setCell ⟨w.1.size,0,none⟩ a').setCell ⟨w.1.size,1,none⟩ b').setCell ⟨w.1.size,2,none⟩ c').setCell ⟨w.1.size,3,none⟩ d').cell? ⟨w.1.size,2,none⟩=some c'/\((((W.setCell ⟨w.1.size,0,none⟩ a').setCell ⟨w.1.size,1,none⟩ b').setCell ⟨w.1.size,2,none⟩ c').setCell ⟨w.1.size,3,none⟩ d').cell? ⟨w.1.size,3,none⟩=some d')/\
 Below w.1.size w ((((W.setCell ⟨w.1.size,0,none⟩ a').setCell ⟨w.1.size,1,none⟩ b').setCell ⟨w.1.size,2,none⟩ c').setCell ⟨w.1.size,3,none⟩ d'):=by
 obtain⟨h,i,j,k,_⟩:=dP (aM (o:=3) d' (aM (o:=2) c' (aM (o:=1) b' (aM (o:=0) a' e))));exact⟨Qh,(((f.setCell (p:=⟨w.1.size,0,none⟩) Ol _).setCell (p:=⟨w.1.size,1,none⟩) Ol _).setCell (p:=⟨w.1.size,2,none⟩) Ol _).setCell (p:=⟨w.1.size,3,none⟩) Ol _⟩
def WdC(w:World)(X:ByteArray)(p:Nat)(w':World):Prop:=∃ kd:Int,kd=(if inQ X bRV then 3 else 1)/\w'.1[w.1.size]?=some (Qf #[Qc 0,Qc 0,.string ⟨#[]⟩,Qc 0] 220)/\w'.1[w.1.size+1]?=some (Qf #[Qc kd,Qc p,.string X,Qc 0] 220)/\Below w.1.size w w'
theorem cA1(s:ByteArray)(p:Nat)(w:World)(hp:p < s.size)(hz:s.size<=4000):Calls Tryz.prog 101 #[.string s,Qc p] w fun e r=>e= .returned (.tuple #[cAW (bMI s p).1,Qc (bMI s p).2.1,Qc (bMI s p).2.2])/\Below w.1.size w r:=by
 have a7:0<=(p:Int)/\(p:Int)<=(s.size:Int):=Oa
 have hsz:(s.extract p s.size).size=s.size - p:=by rw[ByteArray.size_extract];omega
 obtain⟨u,Y⟩:∃ u,u=s.extract p s.size:=⟨_,rfl⟩;obtain⟨R,A⟩:∃ R,R=bMI s p:=⟨_,rfl⟩;rw[<-A];unfold bMI at A;dsimp only at A;rw[<-Y]at A hsz;have G:=bZR u (u.size+1) 0 0 (Qn _);have G:(nmQ u).1<=u.size:=G;have hN:=fun W=>bZ6 u W Oa;have hS:=fun W=>cAB u W Oa Oa;obtain⟨Q,k4⟩:∃ o:Obj,o= Qf #[Qc 0,Qc 0,.string ⟨#[]⟩,Qc 0] 220:=⟨_,rfl⟩;have D:(w.alloc Q).1[w.1.size]?=some (Qf #[Qc 0,Qc 0,.string ⟨#[]⟩,Qc 0] 220):=by rw[k4];exact Qk w _
 have b0:Below w.1.size w (w.alloc Q):=(Below.refl _ _).alloc Ol _;have s0:(w.alloc Q).1.size=w.1.size+1:=Od
 generalize y6:nmQ u=nq at*;obtain⟨q,cnt⟩:=nq;have S:Hid _:=A;have HS:Hid _:=hS;clear A y6 hS;go_enter Tryz.func101,Tryz.ntmps101
 go_upto_region 1 with fail
 rw[<-k4];clear k4;generalize w.alloc Q=h at*;go_upto_region 2 with fail
 rw[<-Y];clear Y;go_wp2_with fail
 refine(hN h).mono ?_;rintro e r ⟨rfl,rfl⟩;clear hN
 by_cases V:0 < q
 ·have a5:decide ((q:Int) > 0)=true:=decide_eq_true Oa;have a6:(q:Int)<=(u.size:Int):=Oa
  obtain⟨X,U⟩:∃ X,X=u.extract 0 q:=⟨_,rfl⟩
  have t:Hid (R=(⟨if inQ X bRV then 3 else 1,p,X,0⟩,q,if 12 < cnt then 1 else 0)):=by
   have:=S.o;rw[if_pos V,<-U]at this;exact this
  obtain⟨E,k3⟩:∃ o:Obj,o= Qf #[Qc 1,Qc p,.string X,Qc 0] 220:=⟨_,rfl⟩;have N:(h.alloc E).1[w.1.size+1]?=some (Qf #[Qc 1,Qc p,.string X,Qc 0] 220):=by rw[<-s0,k3];exact Qk h _
  have Z:=(Below.heap_alloc h E w.1.size Oa).t D;have y:Below w.1.size w (h.alloc E):=b0.alloc Oa _;have k6:=bZC X bRV (h.alloc E) Ob;unfold bRV at k6;clear D b0 G;go_upto_region 5 with fail
  rw[<-U,<-k3];clear U k3;obtain⟨x0,x1,x2,x3,_⟩:=dP N;have y7:w.1.size≠w.1.size+1:=Oa
  generalize h.alloc E=W1 at*;go_wp2_with fail
  refine k6.mono ?_;rintro e r ⟨rfl,rfl⟩;clear k6;go_upto_if 33 with fail
  go_cut [11]from 15 (fun _ r=>WdC w X p r)
  case first=>
   have HK:Hid _:=Z;have y5:Hid _:=N;have HB:Hid (Below w.1.size w W1):=y;obtain⟨O,K⟩:∃ O,O=inQ X bRV:=⟨_,rfl⟩;have HO:Hid (O=inQ X bRV):=K;unfold bRV at K;rw[<-K];clear K Z N y;cases O
   ·go_wp2;go_meet
    case rel=>exact⟨1,by rw[<-HO.o];rfl,HK.o,y5.o,HB.o⟩
   ·go_wp2;go_meet
    case rel=>exact⟨3,by rw[<-HO.o];rfl,(Om y7).t HK.o,aM (o:=0) (Qc 3) y5.o,HB.o.setCell (p:=⟨w.1.size+1,0,none⟩) (by show _<=w.1.size+1;omega) _⟩
  case rest=>
   rename World=>WC
   obtain⟨kd,k5,q0,q1,qb⟩:=hcut;clear x0 x1 x2 x3 Z N y;obtain⟨x0,x1,x2,x3,_⟩:=dP q1;obtain⟨z0,z1,z2,z3,zf⟩:=dP q0;obtain⟨⟨j,l,m,n⟩,b⟩:=bOZ (a':= Qc kd) (b':= Qc p) (c':= .string X) (d':= Qc 0) q0 qb;have i:Hid _:=b;have a3:Hid _:=k5;have d:=t.o;rw[<-k5]at d;clear q0 q1 qb b k5
   by_cases L:12 < cnt
   ·have T:decide ((cnt:Int) > 12)=true:=decide_eq_true Oa;rw[if_pos L]at d;have k7:Hid _:=d;clear L d;go_wp2;refine bodyPost_ret (v:= .tuple #[.agg #[Qc kd,Qc p,.string X,Qc 0],Qc q,Qc 1]) (by simp[results,Tryz.results101,go_sem,j,l,m,n]) rfl ⟨by rw[k7.o];rfl,i.o⟩
   ·have T:decide ((cnt:Int) > 12)=false:=decide_eq_false Oa;rw[if_neg L]at d;have k7:Hid _:=d;clear L d;go_wp2;refine bodyPost_ret (v:= .tuple #[.agg #[Qc kd,Qc p,.string X,Qc 0],Qc q,Qc 0]) (by simp[results,Tryz.results101,go_sem,j,l,m,n]) rfl ⟨by rw[k7.o];rfl,i.o⟩
 ·have y8:q=0:=Oa
  subst y8;have y4:Hid _:=S.o.t (if_neg V);have D0:Hid (dgQ u=dgL u (u.size+1) 0 0):=rfl;obtain⟨z0,z1,z2,z3,zf⟩:=dP D;have I:Hid _:=D;have J:Hid _:=b0;clear V D b0 G S;go_wp2_with fail
  go_loopg [12,13] (u.size+1) (fun P a1 a2 wr=>∃ (k:Nat) (v:Int),a1= Qc k/\a2= Qc v/\k<=u.size/\u.size+1<=k+P/\0<=v/\v<=999999999/\dgQ u=dgL u P k v/\h=wr)
  case atStart=>exact⟨0,0,rfl,rfl,Qn _,Oa,Oa,Oa,D0.o,rfl⟩
  case round=>
   clear D0;obtain⟨k,v,rfl,rfl,M,C,v0,v9,a,rfl⟩:=hrel;obtain⟨g,rfl⟩:∃ P,gk=P+1:=⟨gk - 1,Oa⟩;unfold dgL at a
   by_cases c:k < u.size/\48<=(u.get! k).toNat/\(u.get! k).toNat<=57
   ·rw[if_pos c]at a;have H:=c.1;rw[bGP H]at a c;have h5:(k:Int) < (u.size:Int):=Oa
    have y9:0<=(k:Int)/\(k:Int) < (u.size:Int):=Oa
    have y:decide ((u[k].toNat:Int)≥48)=true:=decide_eq_true Oa;have b2:decide ((u[k].toNat:Int)<=57)=true:=decide_eq_true Oa;have w1:IntKind.u8.wrap ((u[k].toNat:Int) - 48)=(u[k].toNat:Int) - 48:=by rw[IntKind.wrap_u8];omega
    have w2:IntKind.i64.wrap (10*v)=10*v:=IntWalk.i64_in _ Oa;have w3:IntKind.i64.wrap (10*v+((u[k].toNat:Int) - 48))=10*v+((u[k].toNat:Int) - 48):=IntWalk.i64_in _ Oa;have w4:IntKind.i64.wrap ((u[k].toNat:Int) - 48)=(u[k].toNat:Int) - 48:=IntWalk.i64_in _ Oa;have k9:=c.2;have k2:0<=10*v+((u[k].toNat:Int) - 48):=Oa
    by_cases f:999999999 < 10*v+((u[k].toNat:Int) - 48)
    ·have T:decide (10*v+((u[k].toNat:Int) - 48) > 999999999)=true:=decide_eq_true Oa;rw[if_pos f]at a;have z:Hid (R=(⟨0,0,⟨#[]⟩,0⟩,0,3)):=y4.o.t (by rw[a];rfl);obtain⟨⟨j,l,m,n⟩,b⟩:=bOZ (a':= Qc 0) (b':= Qc 0) (c':= .string ⟨#[]⟩) (d':= Qc 0) I.o J.o;have i:Hid _:=b;clear f a c k9 k2 b M C;go_wp2;refine bodyPost_ret (v:= .tuple #[.agg #[Qc 0,Qc 0,.string ⟨#[]⟩,Qc 0],Qc 0,Qc 3]) (by simp[results,Tryz.results101,go_sem,j,l,m,n]) rfl ⟨by rw[z.o];rfl,i.o⟩
    ·have T:decide (10*v+((u[k].toNat:Int) - 48) > 999999999)=false:=decide_eq_false Oa;rw[if_neg f]at a;have HD:Hid _:=a;have F:Hid (k < u.size/\u.size+1<=k+(g+1)/\0<=10*v+((u[k].toNat:Int) - 48)/\10*v+((u[k].toNat:Int) - 48)<=999999999):=⟨H,C,k2,Oa⟩;clear f a c k9 k2 M C;go_wp2;go_roundg g
     case rel=>exact⟨k+1,_,Od,rfl,Oi F.o,Oi F.o,F.o.2.2.1,F.o.2.2.2,HD.o,rfl⟩
     case measure=>omega
   ·rw[if_neg c]at a;go_upto_region 13 with fail
    go_cut [56]from 41 to 69 (fun x r=>x= .bool false/\h=r)
    case first=>
     by_cases H:k < u.size
     ·have h5:(k:Int) < (u.size:Int):=Oa
      have y9:0<=(k:Int)/\(k:Int) < (u.size:Int):=Oa
      rw[bGP H]at c
      by_cases c1:48<=u[k].toNat
      ·have y:decide ((u[k].toNat:Int)≥48)=true:=decide_eq_true Oa;have b2:decide ((u[k].toNat:Int)<=57)=false:=decide_eq_false Oa;clear c c1 a;go_wp2;go_meet
       case rel=>exact⟨rfl,rfl⟩
      ·have y:decide ((u[k].toNat:Int)≥48)=false:=decide_eq_false Oa;clear c c1 a;go_wp2;go_meet
       case rel=>exact⟨rfl,rfl⟩
     ·have h5: ¬(k:Int) < (u.size:Int):=Oa
      clear c a;go_wp2;go_meet
      case rel=>exact⟨rfl,rfl⟩
    case rest=>
     obtain⟨rfl,rfl⟩:=hcut;clear c;have t:=y4.o;rw[a]at t
     by_cases k8:0 < k
     ·have a4:(k:Int)<=(u.size:Int):=Oa
      have B:R=(⟨2,p,u.extract 0 k,v⟩,k,0):=t.t (by simp[k8]);have z:Hid (R=(⟨2,p,u.extract 0 k,v⟩,k,0)):=B;obtain⟨⟨j,l,m,n⟩,b⟩:=bOZ (a':= Qc 2) (b':= Qc p) (c':= .string (u.extract 0 k)) (d':= Qc v) I.o J.o;have i:Hid _:=b;clear B t a M C b;go_wp2;refine bodyPost_ret (v:= .tuple #[.agg #[Qc 2,Qc p,.string (u.extract 0 k),Qc v],Qc k,Qc 0]) (by simp[results,Tryz.results101,go_sem,j,l,m,n]) rfl ⟨by rw[z.o];rfl,i.o⟩
     ·obtain rfl:k=0:=Oa
      have B:R=if sgQ u=⟨#[]⟩then(⟨0,0,⟨#[]⟩,0⟩,0,1)else(⟨3,p,sgQ u,0⟩,(sgQ u).size,0):=t.t Od
      have z:Hid _:=B;have hs:=HS.o h;clear B t a M C k8;generalize sgQ u=x at*;go_wp2_with fail
      refine hs.mono ?_;rintro e r ⟨rfl,rfl⟩;clear hs
      by_cases f:x=⟨#[]⟩
      ·have d:Hid _:=z.o.t (if_pos f);have t2:x.toList.isEmpty=true:=by rw[f,Lib.toList_data];rfl
       obtain⟨⟨j,l,m,n⟩,b⟩:=bOZ (a':= Qc 0) (b':= Qc 0) (c':= .string ⟨#[]⟩) (d':= Qc 0) I.o J.o;have i:Hid _:=b;clear f b;go_wp2;refine bodyPost_ret (v:= .tuple #[.agg #[Qc 0,Qc 0,.string ⟨#[]⟩,Qc 0],Qc 0,Qc 1]) (by simp[results,Tryz.results101,go_sem,j,l,m,n]) rfl ⟨by rw[d.o];rfl,i.o⟩
      ·have d:Hid _:=z.o.t (if_neg f)
       have t2:x.toList.isEmpty=false:=by
        rw[Lib.toList_data];cases hq:x.data.toList with
        |nil=>exact absurd (ByteArray.ext (Array.ext' hq)) f
        |cons=>rfl
       obtain⟨⟨j,l,m,n⟩,b⟩:=bOZ (a':= Qc 3) (b':= Qc p) (c':= .string x) (d':= Qc 0) I.o J.o;have i:Hid _:=b;clear f b;go_wp2;refine bodyPost_ret (v:= .tuple #[.agg #[Qc 3,Qc p,.string x,Qc 0],Qc x.size,Qc 0]) (by simp[results,Tryz.results101,go_sem,j,l,m,n]) rfl ⟨by rw[d.o];rfl,i.o⟩
open Go.ChangeMaps Go.MapKept
def bNT(com:Bool)(c:Int):Bool:=com||(c==35)||(c==32)||(c==9)||(c==10)||(c==13)
def bQO(com:Bool)(c:Int):Bool:=(com||(c==35))&&(c !=10)
def wdL(s:ByteArray):Nat->Nat->Bool->List Tok->List Tok × Int × Int
 |0,_,_,l=>(l,0,0)
 |f+1,p,com,l=>if p < s.size then
   (if(chQ (s.extract p s.size)).2=0 then([],1,p)
   else if bNT com (chQ (s.extract p s.size)).1=true then wdL s f (p+(chQ (s.extract p s.size)).2.toNat) (bQO com (chQ (s.extract p s.size)).1) l
   else if(bMI s p).2.2≠0 then([],(bMI s p).2.2,p)
   else wdL s f (p+(bMI s p).2.1) com (l++[(bMI s p).1]))
  else(l++[⟨0,s.size,⟨#[]⟩,0⟩],0,0)
def bNC(s:ByteArray):List Tok × Int × Int:=if 4000 < s.size then([],1,0)else wdL s (s.size+1) 0 false []
theorem bT9{s:ByteArray}{p:Nat}(l:p < s.size)(h:(bMI s p).2.2=0):1<=(bMI s p).2.1/\p+(bMI s p).2.1<=s.size:=by
 have hsz:(s.extract p s.size).size=s.size - p:=Od
 unfold bMI at h ⊢;dsimp only at h ⊢;generalize s.extract p s.size=u at*;have j:(nmQ u).1<=u.size:=bZR u (u.size+1) 0 0 Oa
 by_cases d:0 < (nmQ u).1
 ·grind
 rw[if_neg d]at h ⊢
 by_cases e:(dgQ u).2.2=true
 ·grind
 rw[if_neg e]at h ⊢
 by_cases b:0 < (dgQ u).1
 ·rw[if_pos b]
  have g:∀ (f k:Nat) (v:Int),k<=u.size->(dgL u f k v).1<=u.size:=by
   intro f
   induction f with
   |zero=>intro k v h;exact h
   |succ f ih=>
    grind[dgL]
  grind[dgQ]
 rw[if_neg b]at h ⊢
 by_cases c:sgQ u=⟨#[]⟩
 ·grind
 rw[if_neg c]
 have i:(sgQ u).size<=u.size:=by
  unfold sgQ
  split
  ·rw[ByteArray.size_extract];omega
  ·split
   ·rw[ByteArray.size_extract];omega
   ·exact Qn _
 have m:0 < (sgQ u).size:=by
  rcases Nat.eq_zero_or_pos (sgQ u).size with a|a
  ·exact absurd (ByteArray.ext (Array.eq_empty_of_size_eq_zero a)) c
  ·exact a
 grind
theorem bYP:(Tryz.prog.info? 220).map (fun i=>(i.zero,i.size,i.bytes))=some (some (.agg #[Qc 0,Qc 0,.string ⟨#[]⟩,Qc 0]),4,40):=by kernel_rfl
def bYM(s:ByteArray)(w:World):Ending->World->Prop:=fun e w'=>Below w.1.size w w'/\∃ v,e= .returned (.tuple #[v,.agg #[Qc (bNC s).2.1,Qc (bNC s).2.2]])/\w'.ownsRow (w.1.size+1) 220 4 v (bNC s).1.length (fJ (bNC s).1)/\((bNC s).2.1≠0->v= .slice none 0 0)
theorem bVC(s:ByteArray)(w:World):Calls Tryz.prog 60 #[.string s] w (bYM s w):=by
 obtain⟨i0,z5,y7,y6,y5⟩:=info_parts bYP;obtain⟨E,V⟩:∃ o:Obj,o= Qf #[Qc 0,Qc 0] 37:=⟨_,rfl⟩;have k0:(w.alloc E).1[w.1.size]?=some (Qf #[Qc 0,Qc 0] 37):=by rw[V];exact Qk w _
 have b0:Below w.1.size w (w.alloc E):=(Below.refl _ _).alloc Ol _;have s0:(w.alloc E).1.size=w.1.size+1:=Od
 obtain⟨R,a⟩:∃ R,R=bNC s:=⟨_,rfl⟩;unfold bYM;rw[<-a];unfold bNC at a
 by_cases h7:4000 < s.size
 ·have d:decide ((s.size:Int) > 4000)=true:=decide_eq_true Oa;rw[if_pos h7]at a;have m:Hid _:=a;obtain⟨G,H,z1⟩:=iV k0;obtain⟨I,K⟩:=dQ (w:=w.alloc E) (u0:= Qc 1) (u1:= Qc 0) G H;have j:Hid (Below w.1.size w (((w.alloc E).setCell ⟨w.1.size,0,none⟩ (Qc 1)).setCell ⟨w.1.size,1,none⟩ (Qc 0))):=(b0.setCell (p:=⟨w.1.size,0,none⟩) Ol _).setCell (p:=⟨w.1.size,1,none⟩) Ol _;clear a k0 b0 h7;go_enter Tryz.func60,Tryz.ntmps60
  go_upto_region 1 with fail
  rw[<-V];clear V;generalize w.alloc E=W0 at*;go_wp2;refine bodyPost_ret (v:= .tuple #[.slice none 0 0,.agg #[Qc 1,Qc 0]]) (by simp[results,Tryz.results60,go_sem,I,K]) rfl ?_;rw[m.o];exact⟨j.o,_,rfl,World.ownsRow_nil _ _ _ _,fun _=>rfl⟩
 have hz:s.size<=4000:=Oa
 have d:decide ((s.size:Int) > 4000)=false:=decide_eq_false Oa;rw[if_neg h7]at a;have m:Hid _:=a;have z8:Hid _:=k0;have z9:Hid _:=b0;clear a k0 b0 h7;go_enter Tryz.func60,Tryz.ntmps60
 go_upto_region 1 with fail
 rw[<-V];clear V;generalize w.alloc E=W0 at*;go_wp2_with fail
 go_loopg [4,5,6,7,8,9,10] (s.size+1) (fun a1 x4 x5 x6 x7 x8 x9 b5 wr=>∃ (p:Nat) (b:Bool) (l:List Tok),x5= .bool b/\x6= Qc p/\p<=s.size/\s.size+1<=p+a1/\l.length<=p/\R=wdL s a1 p b l/\wr.ownsRow (w.1.size+1) 220 4 x4 l.length (fJ l)/\Below w.1.size w wr/\wr.1[w.1.size]?=some (Qf #[Qc 0,Qc 0] 37))
 case atStart=>exact⟨0,false,[],rfl,rfl,Qn _,Oa,Ql _,m.o,World.ownsRow_nil _ _ _ _,z9.o,z8.o⟩
 case round=>
  clear m z8 z9 s0
  rename World=>WR
  obtain⟨p,b,l,rfl,rfl,hp,hm,z4,a,q,T,i⟩:=hrel;obtain⟨g,rfl⟩:∃ a1,gk=a1+1:=⟨gk - 1,Oa⟩;unfold wdL at a
  by_cases P:p < s.size
  ·rw[if_pos P]at a;have k9:(p:Int) < (s.size:Int):=Oa
   have b3:0<=(p:Int)/\(p:Int)<=(s.size:Int):=Oa
   have hsz:(s.extract p s.size).size=s.size - p:=by rw[ByteArray.size_extract];omega
   have z6:=bYE (s.extract p s.size) WR Oa Oa;have y9:=bRO (s.extract p s.size) Oa;generalize chQ (s.extract p s.size)=c at*;obtain⟨c,a2⟩:=c;have Z:Hid (p < s.size/\s.size+1<=p+(g+1)/\l.length<=p/\(s.extract p s.size).size=s.size - p):=⟨P,hm,z4,hsz⟩;have m:Hid _:=a;have L:Hid _:=q;have j:Hid (Below w.1.size w WR):=T;have u:Hid _:=i;have HW:Hid _:=y9;clear a q T i y9 hm z4 hp hsz;go_wp2_with fail
   refine z6.mono ?_;rintro e w' ⟨rfl,rfl⟩;clear z6
   by_cases B:a2=0
   ·have t0:(a2==0)=true:=by simp[B]
    have y2:Hid (R=([],1,(p:Int))):=m.o.t (if_pos B);obtain⟨G,H,z1⟩:=iV u.o;obtain⟨I,K⟩:=dQ (w:=WR) (u0:= Qc 1) (u1:= Qc p) G H;have D:Hid (Below w.1.size w ((WR.setCell ⟨w.1.size,0,none⟩ (Qc 1)).setCell ⟨w.1.size,1,none⟩ (Qc p))):=(j.o.setCell (p:=⟨w.1.size,0,none⟩) Ol _).setCell (p:=⟨w.1.size,1,none⟩) Ol _;clear B;go_wp2;refine bodyPost_ret (v:= .tuple #[.slice none 0 0,.agg #[Qc 1,Qc p]]) (by simp[results,Tryz.results60,go_sem,I,K]) rfl ?_;rw[y2.o];exact⟨D.o,_,rfl,World.ownsRow_nil _ _ _ _,fun _=>rfl⟩
   ·have t0:(a2==0)=false:=by simp[B]
    have Q:Hid _:=m.o.t (if_neg B);obtain⟨g1,g2,g3,S,j1⟩:=HW.o.resolve_left (fun h=>B h.1);have A:Hid (1<=S/\p+S<=s.size):=by have:=Z.o;rw[Hid];omega
    subst j1;clear B g1 g2 g3;go_upto_region 10 with fail
    go_cut [5,7,50]from 15 to 81 (fun a4 a5 a6 w'=>a4= .bool b/\a5= Qc c/\a6= .bool (bNT b c)/\WR=w')
    case first=>
     clear m Q L j u HW A Z;cases b
     ·rcases(show c=35\/c=32\/c=9\/c=10\/c=13\/(c≠35/\c≠32/\c≠9/\c≠10/\c≠13)by omega)with rfl|rfl|rfl|rfl|rfl|⟨r,h2,h3,h4,h5⟩
      all_goals
       try
        have n:(c==35)=false:=by simp[r]
        have e2:(c==32)=false:=by simp[h2]
        have e3:(c==9)=false:=by simp[h3]
        have e4:(c==10)=false:=by simp[h4]
        have e5:(c==13)=false:=by simp[h5]
        have f:Hid (bNT false c=false):=by unfold bNT;rw[Hid,n,e2,e3,e4,e5];rfl
        clear r h2 h3 h4 h5
       go_wp2;go_meet
       case rel=>exact⟨rfl,rfl,by first|rfl|rw[f.o],rfl⟩
     ·go_wp2;go_meet
      case rel=>exact⟨rfl,rfl,rfl,rfl⟩
    case rest=>
     obtain⟨rfl,rfl,rfl,rfl⟩:=hcut;have hI:=Z.o;cases hsp:bNT b c
     ·have C:Hid _:=Q.o.t (if_neg (by show ¬bNT b c=true;rw[hsp];decide));have y8:=cA1 s p WR P hz;have k7:=fun h=>bT9 P (s:=s) h;generalize bMI s p=a7 at*;obtain⟨O,z,er⟩:=a7;obtain⟨F,k8⟩:∃ o:Obj,o= Qf #[Qc O.d,Qc O.e,.string O.f,Qc O.a] 220:=⟨_,rfl⟩;clear m Q hsp A HW;go_wp2_with fail
      refine y8.mono ?_;rintro e k ⟨rfl,b1⟩;clear y8;unfold cAW;have a8:=b1.size;have y1:=(Oo u.o);have s2:(k.alloc F).1.size=k.1.size+1:=Od
      have kW:(k.alloc F).1[k.1.size]?=some (Qf #[Qc O.d,Qc O.e,.string O.f,Qc O.a] 220):=by rw[k8];exact Qk k _
      have a3:∀ U,U < WR.1.size->(k.alloc F).1[U]?=WR.1[U]?:=fun U hi=>(On Oa).t (b1.block U hi);have D:Hid (Below w.1.size w (k.alloc F)):=(j.o.t (b1.mono j.o.size)).alloc (Oi j.o.size) _;have y4:Hid _:=(a3 _ y1).t u.o;have j2:Hid ((k.alloc F).ownsRow (w.1.size+1) 220 4 u4 l.length (fJ l)):=cD L.o (fun y i=>a3 y (World.ownsRow.lt (w:=WR) L.o y i).2);clear b1 a3 j u L;go_upto_region 14 with fail
      rw[<-k8];clear k8;obtain⟨z0,z1,z2,z3,_⟩:=dP kW;have a9:k.1.size < (k.alloc F).1.size:=Oa
      have b4:w.1.size+1<=k.1.size:=Oa
      clear s2;generalize k.alloc F=x at*
      by_cases f:er=0
      ·have n:(er !=0)=false:=by simp[f]
       have y3:Hid (R=wdL s g (p+z) b (l++[O])):=C.o.t (if_neg (by simp[f]));obtain⟨m1,m2⟩:=k7 f;have m1:1<=z:=m1;have m2:p+z<=s.size:=m2;have q:=j2.o;have HM:Hid (1<=z/\p+z<=s.size):=⟨m1,m2⟩;have j0:IntKind.i64.wrap ((p:Int)+(z:Int))=(p:Int)+(z:Int):=IntWalk.i64_in _ Oa;clear f k7 C kW;go_wp2_with (at_builtin;refine wpList_append_lies _ rfl _ _ 71 rfl (w.1.size+1) 220 i0 _ 4 40 Tryz.underlying71 z5 y7 y6 y5 rfl Oa u4 l.length (fJ l) rfl (q.alloc _) ⟨x.1.size,0,none⟩ 1 1 (Tok.cells O) rfl rfl (World.news_of_block (cs:=#[Qc O.d,Qc O.e,.string O.f,Qc O.a]) (t:=220) (fr:=(0,0)) (Qk x _)) (by simp[Tok.cells,Value.oneCell']) Oa (by unfold maxLen;omega) Oa (by simp;omega) (x.1.size+1) Od ?_;intro gg J M W N z7 k5)
       have b2:w.1.size≠x.1.size:=by have:=D.o.size;omega
       have X:Below w.1.size w M:=(D.o.alloc D.o.size _).grown N (by have:=D.o.size;simp;omega) (fun y i=>by have:=(World.ownsRow.lt (w:=x) q y i).1;omega);have k6:u4.ownBlock≠some w.1.size:=fun e=>by have:=(World.ownsRow.lt (w:=x) q _ e).1;omega
       have y0:=(Oo y4.o);have Y:=(N.block w.1.size (by simp;omega) (fun e=>k6 e.symm)).t ((Below.heap_alloc x _ w.1.size y0).t y4.o)
       have FO:M.ownsRow (w.1.size+1) 220 4 (Qe gg (l.length+1) J) (l++[O]).length (fJ (l++[O])):=by
        have n:fJ (l++[O])=fJ l++Tok.cells O:=by unfold fJ;rw[List.flatMap_append];simp
        rw[n,List.length_append];exact W
       have HF:Hid _:=FO;have j3:Hid _:=Y;have j4:Hid _:=X;clear W N z7 k5 FO Y X k6 q m1 m2;go_wp2;go_roundg g
       case rel=>exact⟨p+z,b,l++[O],rfl,Od,HM.o.2,Oi HM.o,by have:=HM.o;rw[List.length_append];simp;omega,y3.o,HF.o,j4.o,j3.o⟩
       case measure=>omega
      ·have n:(er !=0)=true:=by simp[f]
       have y3:Hid (R=([],er,(p:Int))):=C.o.t (if_pos f);obtain⟨G,H,z1⟩:=iV y4.o;obtain⟨I,K⟩:=dQ (w:=x) (u0:= Qc er) (u1:= Qc p) G H;have j5:Hid (Below w.1.size w ((x.setCell ⟨w.1.size,0,none⟩ (Qc er)).setCell ⟨w.1.size,1,none⟩ (Qc p))):=(D.o.setCell (p:=⟨w.1.size,0,none⟩) Ol _).setCell (p:=⟨w.1.size,1,none⟩) Ol _;clear f k7 C kW;go_wp2;refine bodyPost_ret (v:= .tuple #[.slice none 0 0,.agg #[Qc er,Qc p]]) (by simp[results,Tryz.results60,go_sem,I,K]) rfl ?_;rw[y3.o];exact⟨j5.o,_,rfl,World.ownsRow_nil _ _ _ _,fun _=>rfl⟩
     ·have C:Hid (R=wdL s g (p+S) (bQO b c) l):=Q.o.t (if_pos hsp);have j0:IntKind.i64.wrap ((p:Int)+(S:Int))=(p:Int)+(S:Int):=IntWalk.i64_in _ (Oi A.o);go_upto_region 11 with fail
      go_cut [5,7,59]from 15 to 81 (fun a4 a5 a6 w'=>a4= .bool (bQO b c)/\a5= Qc c/\WR=w')
      case first=>
       clear m Q C L j u HW A Z hsp;cases b
       ·by_cases r:c=35
        ·subst r;go_wp2;go_meet
         case rel=>exact⟨rfl,rfl,rfl⟩
        ·have n:(c==35)=false:=by simp[r]
         have f:Hid (bQO false c=false):=by unfold bQO;rw[Hid,n];rfl
         clear r;go_wp2;go_meet
         case rel=>exact⟨by rw[f.o],rfl,rfl⟩
       ·by_cases r:c=10
        ·subst r;go_wp2;go_meet
         case rel=>exact⟨rfl,rfl,rfl⟩
        ·have n:(c !=10)=true:=by simp[r]
         have f:Hid (bQO true c=true):=by unfold bQO;rw[Hid,n];rfl
         clear r;go_wp2;go_meet
         case rel=>exact⟨by rw[f.o],rfl,rfl⟩
      case rest=>
       obtain⟨rfl,rfl,rfl⟩:=hcut;clear hsp m Q;go_wp2;go_roundg g
       case rel=>exact⟨p+S,_,l,rfl,Od,A.o.2,Oi A.o,Oi A.o,C.o,L.o,j.o,u.o⟩
       case measure=>omega
  ·have k9: ¬(p:Int) < (s.size:Int):=Oa
   rw[if_neg P]at a;have y2:Hid _:=a;have j:Hid (Below w.1.size w WR):=T;have u:Hid _:=i;have hsz:=T.size;have y1:=(Oo i);have k6: ¬some w.1.size=u4.ownBlock:=fun e=>by have:=(World.ownsRow.lt (w:=WR) q _ e.symm).1;omega
   clear a T i P;go_upto_region 18 with fail
   go_wp2_with (at_builtin;refine wpList_append_lies _ rfl _ _ 71 rfl (w.1.size+1) 220 i0 _ 4 40 Tryz.underlying71 z5 y7 y6 y5 rfl Oa u4 l.length (fJ l) rfl (q.alloc _) ⟨WR.1.size,0,none⟩ 1 1 (Tok.cells ⟨0,s.size,⟨#[]⟩,0⟩) rfl rfl (World.news_of_block (cs:=#[Qc 0,Qc s.size,.string ⟨#[]⟩,Qc 0]) (t:=220) (fr:=(0,0)) (Qk WR _)) (by simp[Tok.cells,Value.oneCell']) Oa (by unfold maxLen;omega) Oa (by simp;omega) (WR.1.size+1) Od ?_;intro gg J M W N z7 k5;have Y:=(N.block w.1.size (by simp;omega) k6).t ((Below.heap_alloc WR _ w.1.size y1).t u.o);obtain⟨G,H,z1⟩:=iV Y)
   obtain⟨I,K⟩:=dQ (w:=M) (u0:= Qc 0) (u1:= Qc 0) G H;have X:Below w.1.size w M:=(j.o.alloc hsz _).grown N (by simp;omega) (fun y i=>by have:=(World.ownsRow.lt (w:=WR) q y i).1;omega);refine bodyPost_ret (v:= .tuple #[Qe gg (l.length+1) J,.agg #[Qc 0,Qc 0]]) (by simp[results,Tryz.results60,go_sem,I,K]) rfl ?_;have n:fJ (l++[⟨0,s.size,⟨#[]⟩,0⟩])=fJ l++Tok.cells ⟨0,s.size,⟨#[]⟩,0⟩:=by unfold fJ;rw[List.flatMap_append];simp
   rw[y2.o];refine⟨(X.setCell (p:=⟨w.1.size,0,none⟩) Ol _).setCell (p:=⟨w.1.size,1,none⟩) Ol _,_,rfl,?_,fun h=>absurd rfl h⟩;show World.ownsRow _ _ _ _ _ (l++[_]).length (fJ (l++[_]));rw[n,List.length_append];exact cD W (fun y i=>bCO y (Oi ((World.ownsRow.lt (w:=M) W y i).1)))
def I6(a:Int):Prop:=-9223372036854775808<=a/\a<=9223372036854775807
def Rk(r:Int × Int):Prop:=-9223372036854775808<=r.1/\r.1<=r.2/\r.2<=9223372036854775807
abbrev rgA(r:Int × Int):Value:= .agg #[Qc r.1,Qc r.2]
theorem bM5{b:Nat}{w w':World}(h:Below b w w')(n:Nat):Below b w (w'.drewN n):=⟨h.1,h.2,h.3,h.4,h.5⟩
theorem bNB{W w1:World}(a:Below W.1.size W w1):(∀ b o,b < W.1.size->w1.cell? ⟨b,o,none⟩=W.cell? ⟨b,o,none⟩)/\(∀ b o,b < W.1.size->w1.frozen? ⟨b,o,none⟩=W.frozen? ⟨b,o,none⟩):=
 ⟨fun b o h=>a.cell (p:=⟨b,o,none⟩) h,fun b o h=>a.frozen (p:=⟨b,o,none⟩) h⟩
theorem hsz(w:World)(o:Obj):(w.alloc o).1.size=w.1.size+1:=Od
theorem hal(w:World)(o:Obj)(k:Nat):(w.alloc o).1[k]?=if k=w.1.size then some o else w.1[k]?:=by
 by_cases h:k=w.1.size
 ·grind[heap_alloc_new]
 ·rw[if_neg h];rcases Qt k w.1.size with a|a
  ·grind[Below.heap_alloc]
  ·rw[Array.getElem?_eq_none a,Array.getElem?_eq_none (by simp;omega)]
theorem bOH(w:World):Calls Tryz.prog 111 #[] w fun e a=>e= .returned (rgA (-9223372036854775808,9223372036854775807))/\Below w.1.size w a:=by
 go_enter Tryz.func111,Tryz.ntmps111
 go_wp2;exact bodyPost_ret (v:=rgA (-9223372036854775808,9223372036854775807)) (by simp[results,Tryz.results111,go_sem]) rfl ⟨rfl,(Below.refl _ _).alloc Oa _⟩
theorem bO5(a:Int):I6 (wrap64 a):=by
 unfold I6 wrap64;omega
def cAV(w:World):Ending->World->Prop:=fun e w'=>∃ n ok,e= .returned (.tuple #[Qc n,.bool ok])/\I6 n/\Below w.1.size w w'
theorem bWR(op:ByteArray)(a b:Int)(w:World)(h:I6 a)(i:I6 b):Calls Tryz.prog 293 #[.string op,Qc a,Qc b] w (cAV w):=by
 obtain⟨j,k⟩:=h;obtain⟨l,m⟩:=i
 by_cases d:(op.toList==[43])=true
 ·go_enter Tryz.func293,Tryz.ntmps293
  go_wp2
  all_goals go_ret2
  all_goals exact⟨_,_,rfl,bO5 _,Below.refl _ _⟩
 by_cases f:(op.toList==[45])=true
 ·have d:(op.toList==[43])=false:=by simpa using d
  go_enter Tryz.func293,Tryz.ntmps293
  go_wp2
  all_goals go_ret2
  all_goals exact⟨_,_,rfl,bO5 _,Below.refl _ _⟩
 have d:(op.toList==[43])=false:=by simpa using d
 have f:(op.toList==[45])=false:=by simpa using f
 by_cases c:a=0\/b=0
 ·have c:(a==0)=true\/((a==0)=false/\(b==0)=true):=by
   by_cases e:a=0
   ·exact .l (by simp[e])
   ·exact .r ⟨by simp[e],by simp[c.resolve_left e]⟩
  rcases c with c|⟨c,n⟩
  all_goals
   go_enter Tryz.func293,Tryz.ntmps293
   go_wp2;go_ret2
   exact⟨_,_,rfl,by unfold I6;omega,Below.refl _ _⟩
 have g:b≠0:=fun e=>c (.r e);have o:(a==0)=false:=by simpa using fun e=>c (.l e)
 have p:(b==0)=false:=by simpa using g
 clear c;go_enter Tryz.func293,Tryz.ntmps293
 go_wp2
 all_goals first
  |(go_ret2
   exact⟨_,_,rfl,by unfold I6;omega,Below.refl _ _⟩)
  |(go_quiet (fail)
   go_wp2;go_ret2
   exact⟨_,_,rfl,by first|exact bO5 _|(unfold I6;omega),bM5 (Below.refl _ _) _⟩)
def bRS(w:World):Ending->World->Prop:=fun e w'=>∃ r,e= .returned (rgA r)/\Rk r/\Below w.1.size w w'
theorem cAK(a b:Int × Int)(w:World)(_:Rk a)(h:Rk b):Calls Tryz.prog 292 #[rgA a,rgA b] w (bRS w):=by
 obtain⟨j,k⟩:=a;obtain⟨l,m⟩:=b;obtain⟨d,f,g⟩:=h;dsimp only at d f g;go_enter Tryz.func292,Tryz.ntmps292
 go_wp2_with (go_at_call 111;refine(bOH _).mono ?_;rintro e W ⟨rfl,c⟩;obtain⟨i,n⟩:=bNB c)
 all_goals first
  |exact bodyPost_ret (v:=rgA (_,_)) (by simp[results,Tryz.results292,go_sem];first|exact⟨rfl,rfl⟩|rfl) rfl ⟨_,rfl,(by unfold Rk;first|omega|(unfold wrap64;omega)),(by
    repeat (first|exact Below.refl _ _|refine Qv ?_ (by first|(simp;done)|(simp;omega)) _|refine Below.alloc ?_ (by first|(simp;done)|(simp;omega)) _))⟩
  |exact bodyPost_ret (v:=rgA (_,_)) (by simp[results,Tryz.results292,go_sem,i];exact⟨rfl,rfl⟩) rfl ⟨_,rfl,(by unfold Rk;omega),(by
    refine Qv (Qv (Below.t ?_ (c.mono (by simp;omega))) (by simp;omega) _) (by simp;omega) _
    repeat (first|exact Below.refl _ _|refine Below.alloc ?_ (by first|(simp;done)|(simp;omega)) _))⟩
theorem bT8(op:ByteArray)(a b:Int × Int)(w:World)(F:Rk a)(hb:Rk b):Calls Tryz.prog 232 #[.string op,rgA a,rgA b] w (bRS w):=by
 by_cases a1:(op.toList==[37])=true
 ·go_enter Tryz.func232,Tryz.ntmps232
  go_wp2_with (go_at_call 292;refine(cAK a b _ F hb).mono ?_;rintro e W ⟨⟨r1,r2⟩,rfl,hr,c⟩;obtain⟨r,hf⟩:=bNB c)
  exact bodyPost_ret (v:=rgA (r1,r2)) (by simp[results,Tryz.results232,go_sem,r]) rfl ⟨_,rfl,hr,(by
   refine Qv (Qv (Below.t ?_ (c.mono (by simp;omega))) (by simp;omega) _) (by simp;omega) _
   repeat (first|exact Below.refl _ _|refine Below.alloc ?_ (by first|(simp;done)|(simp;omega)) _))⟩
 have a1:(op.toList==[37])=false:=by simpa using a1
 obtain⟨f,l⟩:=a;obtain⟨d,g⟩:=b;obtain⟨h1,h2,h3⟩:=hb;obtain⟨g1,g2,g3⟩:=F;dsimp only at h1 h2 h3 g1 g2 g3
 by_cases B:(op.toList==[47])=true/\((d<=0/\0<=g)\/f= -9223372036854775808)
 ·obtain⟨I,B⟩:=B
  have r:(decide (d<=0)=true/\decide (g≥0)=true)\/(decide (d<=0)=false/\(f==-9223372036854775808)=true)\/(decide (d<=0)=true/\decide (g≥0)=false/\(f==-9223372036854775808)=true):=by
   by_cases e:d<=0
   ·by_cases P:0<=g
    ·exact .l ⟨by simp[e],by simp[P]⟩
    ·exact .r (.r ⟨by simp[e],by simp;omega,by simp;omega⟩)
   ·exact .r (.l ⟨by simp;omega,by simp;omega⟩)
  rcases r with⟨N,O⟩|⟨N,O⟩|⟨N,O,p3⟩
  all_goals
   go_enter Tryz.func232,Tryz.ntmps232
   go_wp2_with (go_at_call 111;refine(bOH _).mono ?_;rintro e W ⟨rfl,c⟩;obtain⟨r,hf⟩:=bNB c)
   exact bodyPost_ret (v:=rgA (_,_)) (by simp[results,Tryz.results232,go_sem,r];exact⟨rfl,rfl⟩) rfl ⟨_,rfl,(by unfold Rk;omega),(by
    refine Qv (Qv (Below.t ?_ (c.mono (by simp;omega))) (by simp;omega) _) (by simp;omega) _
    repeat (first|exact Below.refl _ _|refine Below.alloc ?_ (by first|(simp;done)|(simp;omega)) _))⟩
 have G:∀ j:Nat,j < 4->∃ x,(#[Qc f,Qc f,Qc l,Qc l])[j]?=some (Qc x)/\I6 x:=by
  intro j hj;rcases(by omega:j=0\/j=1\/j=2\/j=3)with rfl|rfl|rfl|rfl
  all_goals exact⟨_,rfl,by unfold I6;omega⟩
 have H:∀ j:Nat,j < 4->∃ x,(#[Qc d,Qc g,Qc d,Qc g])[j]?=some (Qc x)/\I6 x/\((op.toList==[47])=true->x≠0):=by
  intro j hj;rcases(by omega:j=0\/j=1\/j=2\/j=3)with rfl|rfl|rfl|rfl
  all_goals exact⟨_,rfl,by unfold I6;omega,fun e e0=>B ⟨e,Oa⟩⟩
 obtain⟨k,p⟩:∃ k,k=((((((w.alloc (Qf #[Qc f,Qc l] 232)).alloc (Qf #[Qc d,Qc g] 232)).alloc (Qf #[Qc 0,Qc 0] 232)).alloc (Qf #[Qc 9223372036854775807,Qc (-9223372036854775808)] 232)).alloc (Qf #[Qc f,Qc f,Qc l,Qc l] 2)).alloc (Qf #[Qc d,Qc g,Qc d,Qc g] 2)):=⟨_,rfl⟩
 have s:k.1[w.1.size+1+1]?=some (Qf #[Qc 0,Qc 0] 232):=by
  rw[p]
  repeat (first|rw[hal,if_neg (by simp only[hsz];omega)]|rw[hal,if_pos (by simp only[hsz])])
 have t:k.1[w.1.size+1+1+1]?=some (Qf #[Qc 9223372036854775807,Qc (-9223372036854775808)] 232):=by
  rw[p]
  repeat (first|rw[hal,if_neg (by simp only[hsz];omega)]|rw[hal,if_pos (by simp only[hsz])])
 have C:k.1[w.1.size+1+1+1+1]?=some (Qf #[Qc f,Qc f,Qc l,Qc l] 2):=by
  rw[p]
  repeat (first|rw[hal,if_neg (by simp only[hsz];omega)]|rw[hal,if_pos (by simp only[hsz])])
 have D:k.1[w.1.size+1+1+1+1+1]?=some (Qf #[Qc d,Qc g,Qc d,Qc g] 2):=by
  rw[p]
  repeat (first|rw[hal,if_neg (by simp only[hsz];omega)]|rw[hal,if_pos (by simp only[hsz])])
 have A:Below w.1.size w k:=by
  rw[p]
  repeat (first|exact Below.refl _ _|refine Below.alloc ?_ (by first|(simp;done)|(simp;omega)) _)
 have R:k.1.size=w.1.size+6:=by rw[p];simp only[hsz]
 have r:(op.toList==[47])=false\/((op.toList==[47])=true/\decide (d<=0)=false/\(f==-9223372036854775808)=false)\/((op.toList==[47])=true/\decide (d<=0)=true/\decide (g≥0)=false/\(f==-9223372036854775808)=false):=by
  cases h:(op.toList==[47])with
  |false=>exact .l rfl
  |true=>
   have F:(f==-9223372036854775808)=false:=by
    have:f≠-9223372036854775808:=fun e=>B ⟨h,.r e⟩;simp[this]
   by_cases e:d<=0
   ·exact .r (.r ⟨rfl,by simp[e],decide_eq_false (fun P=>B ⟨h,.l ⟨e,P⟩⟩),F⟩)
   ·exact .r (.l ⟨rfl,by simp[e],F⟩)
 have u:Hid ((k.1[w.1.size+1+1]?=some (Qf #[Qc 0,Qc 0] 232)/\k.1[w.1.size+1+1+1]?=some (Qf #[Qc 9223372036854775807,Qc (-9223372036854775808)] 232)/\k.1[w.1.size+1+1+1+1]?=some (Qf #[Qc f,Qc f,Qc l,Qc l] 2)/\k.1[w.1.size+1+1+1+1+1]?=some (Qf #[Qc d,Qc g,Qc d,Qc g] 2))/\Below w.1.size w k/\k.1.size=w.1.size+6):=⟨⟨s,t,C,D⟩,A,R⟩;clear s t C D A R;have HX:Hid (∀ j:Nat,j < 4->∃ x,(#[Qc f,Qc f,Qc l,Qc l])[j]?=some (Qc x)/\I6 x):=G;have HY:Hid (∀ j:Nat,j < 4->∃ x,(#[Qc d,Qc g,Qc d,Qc g])[j]?=some (Qc x)/\I6 x/\((op.toList==[47])=true->x≠0)):=H;have S:Hid (k=_):=p;clear G H p B;rcases r with I|⟨I,N,O⟩|⟨I,N,O,p3⟩
 all_goals
  go_enter Tryz.func232,Tryz.ntmps232
  go_wp2_with fail
  rw[<-S.o];go_loopg [10] 5 (fun n a4 wr=>∃ (i:Nat) (lo hi:Int),a4= Qc i/\i+n=5/\i<=4/\wr.1[w.1.size+1+1]?=some (Qf #[Qc 0,Qc 0] 232)/\wr.1[w.1.size+1+1+1]?=some (Qf #[Qc lo,Qc hi] 232)/\wr.1[w.1.size+1+1+1+1]?=some (Qf #[Qc f,Qc f,Qc l,Qc l] 2)/\wr.1[w.1.size+1+1+1+1+1]?=some (Qf #[Qc d,Qc g,Qc d,Qc g] 2)/\Below w.1.size w wr/\w.1.size+6<=wr.1.size/\I6 lo/\I6 hi/\(0 < i->lo<=hi))
  case atStart=>exact⟨0,_,_,rfl,rfl,Oa,u.o.1.1,u.o.1.2.1,u.o.1.2.2.1,u.o.1.2.2.2,u.o.2.1,Nat.le_of_eq u.o.2.2.symm,by unfold I6;omega,by unfold I6;omega,fun h=>Oa⟩
  case round=>
   clear u S;obtain⟨i,lo,hi,rfl,a9,a8,s,t,C,D,A,R,jl,jh,Q⟩:=hrel;obtain⟨j1,j2⟩:=jl;obtain⟨j3,j4⟩:=jh;have V:wr.cell? ⟨w.1.size+1+1+1,0,none⟩=some (Qc lo):=Og t rfl
   have X:wr.cell? ⟨w.1.size+1+1+1,1,none⟩=some (Qc hi):=Og t rfl
   have f3:∀ o,wr.frozen? ⟨w.1.size+1+1+1,o,none⟩=false:=fun o=>by simp[World.frozen?,t]
   have T:wr.cell? ⟨w.1.size+1+1,0,none⟩=some (Qc 0):=Og s rfl
   have U:wr.cell? ⟨w.1.size+1+1,1,none⟩=some (Qc 0):=Og s rfl
   have Y:∀ o,wr.frozen? ⟨w.1.size+1+1,o,none⟩=false:=fun o=>by simp[World.frozen?,s]
   by_cases Z:i < 4
   ·obtain⟨x,G,k0,h9⟩:=HX.o i Z;obtain⟨a3,H,⟨h8,h7⟩,L⟩:=HY.o i Z;have c4:wr.cell? ⟨w.1.size+1+1+1+1,i,none⟩=some (Qc x):=Og C G
    have c5:wr.cell? ⟨w.1.size+1+1+1+1+1,i,none⟩=some (Qc a3):=Og D H
    have tl:decide ((i:Int) < 4)=true:=by simp;omega
    have a7:0<=(i:Int)/\(i:Int) < 4:=Oa
    have b1:IntKind.i64.wrap ((i:Int)+1)=(i:Int)+1:=IntWalk.i64_in _ Oa;obtain⟨n2,rfl⟩:=Oj gk;clear G H;go_upto_if 13 with fail
    go_cut [11,12]from 55 to 97 (fun a5 a6 wx=>∃ n ok,a5= Qc n/\a6= .bool ok/\I6 n/\Below wr.1.size wr wx)
    case first=>
     rcases Bool.eq_false_or_eq_true (op.toList==[47])with q|q
     ·first
       |exact absurd (I.symm.t q) Ob
       |(have y0:=L q
        clear L;go_upto_region 14 with fail
        go_quiet (fail)
        go_wp2;go_meet;exact⟨_,_,rfl,rfl,by first|exact bO5 _|(unfold I6;omega),bM5 (Below.refl _ _) _⟩)
     ·first
       |exact absurd (I.symm.t q) Ob
       |(clear L
        go_upto_region 15 with fail
        go_region_with (go_at_call 293;refine(bWR op x a3 _ ⟨k0,h9⟩ ⟨h8,h7⟩).mono ?_;rintro e W ⟨n,ok,rfl,hn,c⟩)
        all_goals go_wp2
        all_goals go_meet
        all_goals exact⟨_,_,rfl,rfl,hn,⟨c.1,c.2,c.3,c.4,c.5⟩⟩)
    case rest=>
     obtain⟨n,ok,rfl,rfl,⟨n1,b2⟩,c⟩:=hcut;have hz:=c.size;have y:=(c.block _ Oa).t s;have z:=(c.block _ Oa).t t;have J:=(c.block _ Oa).t C;have K:=(c.block _ Oa).t D;have E:=A.t (c.mono A.size);clear V X f3 T U Y c4 c5 s t C D A c L;have V:wc.cell? ⟨w.1.size+1+1+1,0,none⟩=some (Qc lo):=Og z rfl
     have X:wc.cell? ⟨w.1.size+1+1+1,1,none⟩=some (Qc hi):=Og z rfl
     have f3:∀ o,wc.frozen? ⟨w.1.size+1+1+1,o,none⟩=false:=fun o=>by simp[World.frozen?,z]
     cases ok
     ·have T:wc.cell? ⟨w.1.size+1+1,0,none⟩=some (Qc 0):=Og y rfl
      have U:wc.cell? ⟨w.1.size+1+1,1,none⟩=some (Qc 0):=Og y rfl
      have Y:∀ o,wc.frozen? ⟨w.1.size+1+1,o,none⟩=false:=fun o=>by simp[World.frozen?,y]
      have zz:w.1.size+1+1 < wc.1.size:=Oa
      go_wp2_with (go_at_call 111;refine(bOH _).mono ?_;rintro e W ⟨rfl,c⟩;obtain⟨r,hf⟩:=bNB c)
      exact bodyPost_ret (v:=rgA (_,_)) (by simp[results,Tryz.results232,go_sem,*];exact⟨rfl,rfl⟩) rfl ⟨_,rfl,(by unfold Rk;omega),(by
       refine Qv (Qv (Below.t E (c.mono Oa)) (by simp;omega) _) (by simp;omega) _)⟩
     ·have m:∀ M o a2,M≠w.1.size+1+1+1->∀ W:World,(W.setCell ⟨w.1.size+1+1+1,o,none⟩ a2).1[M]?=W.1[M]?:=fun M o a2 hk W=>Om hk
      by_cases t1:n < lo
      all_goals by_cases t2:hi < n
      all_goals
       go_wp2;go_roundg n2
       case measure=>omega
       case rel=>
        first
        |exact⟨i+1,n,n,Od,Oa,Oa,(m _ _ _ Oa _).t ((m _ _ _ Oa _).t y),aM _ (aM _ z),(m _ _ _ Oa _).t ((m _ _ _ Oa _).t J),(m _ _ _ Oa _).t ((m _ _ _ Oa _).t K),(E.setCell (by simp;omega) _).setCell (by simp;omega) _,by simp[World.setCell];omega,⟨Oa,Oa⟩,⟨Oa,Oa⟩,fun _=>Oa⟩
        |exact⟨i+1,n,hi,Od,Oa,Oa,(m _ _ _ Oa _).t y,aM _ z,(m _ _ _ Oa _).t J,(m _ _ _ Oa _).t K,E.setCell (by simp;omega) _,by simp[World.setCell];omega,⟨Oa,Oa⟩,⟨Oa,Oa⟩,fun _=>Oa⟩
        |exact⟨i+1,lo,n,Od,Oa,Oa,(m _ _ _ Oa _).t y,aM _ z,(m _ _ _ Oa _).t J,(m _ _ _ Oa _).t K,E.setCell (by simp;omega) _,by simp[World.setCell];omega,⟨Oa,Oa⟩,⟨Oa,Oa⟩,fun _=>Oa⟩
        |exact⟨i+1,lo,hi,Od,Oa,Oa,y,z,J,K,E,Oa,⟨Oa,Oa⟩,⟨Oa,Oa⟩,fun _=>Oa⟩
   ·have tl:decide ((i:Int) < 4)=false:=by simp;omega
    have Q:=Q Oa;go_wp2
    exact bodyPost_ret (v:=rgA (lo,hi)) (by simp[results,Tryz.results232,go_sem,*]) rfl ⟨_,rfl,⟨j1,Q,j4⟩,by
     refine Qv (Qv A (by simp;omega) _) (by simp;omega) _⟩
end Go.Proofs.YtikffmloeifkpaaGreatDoor
