/- Contracts. -/
import Derived.Test.YtikffmloeifkpaaGreatDoorR23
import Derived.Test.YtikffmloeifkpaaGreatDoorR31
set_option maxHeartbeats 16000000
set_option maxRecDepth 100000
namespace Go.Proofs.YtikffmloeifkpaaGreatDoor
open Go.RowKit Go.Lib Go.Deep Go.ChangeMaps Go.MapKept Tryz
section
structure FdW(H U:Nat)(L:List NQ)(A F:List Int)(ns:Nat)(Y D M B:Value)(V:List V3)(w:World):Prop where
 prog:∃ vI m,w.1[U]?=some (Qf #[Y,vI,D,M,Qc m,B] 76)
 nodes:w.ownsRow H 73 11 Y L.length (bMY L V)
 arrs:w.ownsRow H 3 1 D A.length (bLU A)
 fns:w.ownsRow H 3 1 M F.length (bLU F)
 d:∃ xs,w.ownsRow H 55 3 B ns xs
 c:bMQ H w L V
structure Fd(B:Value)(w w':World):Prop where
 os:w'.os=w.os
 tape:w'.tape=w.tape
 output:w'.output=w.output
 size:w.1.size<=w'.1.size
 keep:∀ k,k < w.1.size->B.ownBlock≠some k->w'.1[k]?=w.1[k]?
section
variable {H U:Nat} {L:List NQ} {A F:List Int} {ns:Nat} {Y D M B:Value} {V:List V3} {w w' w2:World}
theorem Fd.refl(B:Value)(w:World):Fd B w w:=⟨rfl,rfl,rfl,Oa,Od⟩
theorem Fd.t(h:Fd B w w')(k:Fd B w' w2):Fd B w w2:=⟨k.os.t h.os,k.tape.t h.tape,k.output.t h.output,Qm h.size k.size,fun j a b=>(k.keep j (Nat.lt_of_lt_of_le a h.size) b).t (h.keep j a b)⟩
theorem Fd.of(h:Below w.1.size w w'):Fd B w w':=⟨h.os,h.tape,h.output,h.size,fun k a _=>h.block k a⟩
theorem FdW.below(h:FdW H U L A F ns Y D M B V w)(f:Below w.1.size w w'):FdW H U L A F ns Y D M B V w':=by
 obtain⟨p,m,j⟩:=h.prog;obtain⟨b,l⟩:=h.d;have lt:∀ {k:Nat} {o:Obj},w.1[k]?=some o->w'.1[k]?=some o:=fun e=>(f.block _ Qg).t e;have a:∀ {n d:Nat} {e:TypeId} {v:Value} {b:List Value},w.ownsRow H e d v n b->w'.ownsRow H e d v n b:=(by grind[cD,bLP])
 exact⟨Qh,a h.nodes,a h.arrs,a h.fns,Qg,h.c.move (fun k g=>by
  obtain⟨⟨c,i⟩,_⟩:=h.c.typ g
  grind)⟩
theorem StW.fd{Z g:Nat}{d:Bool}(h:StW Z d g w)(f:FdW H U L A F ns Y D M B V w)(e:Fd B w w'):StW Z d g w':=by
 obtain⟨R,a,b,c⟩:=h;obtain⟨j,i⟩:=f.d;exact⟨R,a,(e.keep g Qg (by grind[bL5])).t b,c⟩
theorem FdW.Q(h:FdW H U L A F ns Y D M B V w){y:Int}{a:NQ}(hi:Ndq L y a):∃ (k g J:Nat) (c:Option Addr) (c1:Nat) (d:Option Addr) (c2:Nat) (e:Option Addr) (c3:Nat),y=(k:Int)/\k < L.length/\Y= Qe g L.length J/\NdW H w a (.slice c a.c.length c1,.slice d a.g.length c2,.slice e a.e.length c3)/\w.cell? ⟨U,0,none⟩=some (Qe g L.length J)/\(w.cell? ⟨g,k*11,none⟩=some (Qc a.d)/\w.cell? ⟨g,k*11+1,none⟩=some (Qc a.at_)/\w.cell? ⟨g,k*11+2,none⟩=some (.string a.s)/\w.cell? ⟨g,k*11+3,none⟩=some (Qc a.n)/\w.cell? ⟨g,k*11+4,none⟩=some (Qc a.mid)/\w.cell? ⟨g,k*11+5,none⟩=some (.slice c a.c.length c1)/\w.cell? ⟨g,k*11+6,none⟩=some (.slice d a.g.length c2)/\w.cell? ⟨g,k*11+7,none⟩=some (.slice e a.e.length c3)/\w.cell? ⟨g,k*11+8,none⟩=some (Qc a.b)/\w.cell? ⟨g,k*11+9,none⟩=some (Qc a.ref)/\w.cell? ⟨g,k*11+10,none⟩=some (Qc a.f)):=by
 obtain⟨G,x,r⟩:=h.prog;obtain⟨k,rfl⟩:=Int.eq_ofNat_of_zero_le hi.1;have hi:L[k]?=some a:=by have:=hi.2;assumption
 obtain⟨⟨z,C,E⟩,t,f⟩:=h.c.get hi;have p:=(List.getElem?_eq_some_iff.1 hi).1;obtain⟨c,c1,rfl,_⟩:=eQ f.k;obtain⟨d,c2,i,_⟩:=eQ f.p;obtain⟨e,c3,l,_⟩:=eQ f.h;dsimp only at i l;subst i l;obtain⟨_,s⟩:=h.nodes;rcases s with⟨_,v⟩|⟨g,J,u,m,_,q,_,_,_,o⟩
 ·omega
 have b:∀ j,j < 11->w.cell? ⟨g,k*11+j,none⟩=(NdV a (.slice c a.c.length c1,.slice d a.g.length c2,.slice e a.e.length c3))[j]?:=fun j b=>by
  have n:=bQ7 L V k a _ hi t j b;rw[<-o,List.getElem?_take,if_pos Oa]at n;rw[cell_of_row _ _ _ _ _ _ q,<-n];simp
 exact⟨k,g,J,c,c1,d,c2,e,c3,rfl,p,m,f,by rw[cell_of_row _ _ _ _ _ _ r,m];rfl,b 0 Oa,b 1 Oa,b 2 Oa,b 3 Oa,b 4 Oa,b 5 Oa,b 6 Oa,b 7 Oa,b 8 Oa,b 9 Oa,b 10 Oa⟩
end
def Nok(L0 L:List NQ)(A F:List Int)(Z ns:Nat)(K:Int->Prop):Prop:=∀ i,K i->∃ n,Ndq L i n/\WfK L K i n/\OkR L0 A F Z n/\n.f < ns
section
variable {L:List NQ} {K:Int->Prop} {i:Int} {n:NQ}
theorem WfK.one(h:WfK L K i n)(a:n.d=5\/n.d=7\/n.d=12\/n.d=13\/n.d=17\/n.d=18):∃ y,n.c=[y]/\InK L K i 0 y:=by
 rcases h with⟨h,_⟩|⟨h,_⟩|⟨h,_⟩|⟨_,h⟩|⟨h,_⟩|⟨h,_⟩|⟨h,_⟩
 case inr.r.r.l=>exact h
 all_goals omega
theorem WfK.two(h:WfK L K i n)(a:n.d=8\/n.d=9\/n.d=14):∃ y z,n.c=[y,z]/\InK L K i 0 y/\InK L K i 0 z:=by
 rcases h with⟨h,_⟩|⟨h,_⟩|⟨h,_⟩|⟨h,_⟩|⟨_,h⟩|⟨h,_⟩|⟨h,_⟩
 case inr.r.r.r.l=>exact h
 all_goals omega
theorem WfK.both(h:WfK L K i n)(a:n.d=10\/n.d=11):∃ y z,n.c=[y,z]/\InK L K i 1 y/\InK L K i 1 z:=by
 rcases h with⟨h,_⟩|⟨h,_⟩|⟨h,_⟩|⟨h,_⟩|⟨h,_⟩|⟨_,h⟩|⟨h,_⟩
 case inr.r.r.r.r.l=>exact h
 all_goals omega
theorem WfK.iff(h:WfK L K i n)(a:n.d=15\/n.d=16):∃ c b r,n.c=c::b::r/\InK L K i 1 c/\InK L K i 3 b/\(r=[]\/n.d=15/\∃ e,r=[e]/\InK L K i 3 e):=by
 rcases h with⟨h,_⟩|⟨h,_⟩|⟨h,_⟩|⟨h,_⟩|⟨h,_⟩|⟨h,_⟩|⟨_,h⟩
 case inr.r.r.r.r.r=>exact h
 all_goals omega
end
end
section
variable {H U:Nat} {L C:List NQ} {A F:List Int} {ns Z g:Nat} {Y D M B:Value} {V:List V3} {K:Int->Prop}
abbrev cB6(b:NQ)(a1:Option Addr)(k1:Nat)(a2:Option Addr)(k2:Nat)(a3:Option Addr)(k3:Nat):Obj:= Qf #[Qc b.d,Qc b.at_,.string b.s,Qc b.n,Qc b.mid,.slice a1 b.c.length k1,.slice a2 b.g.length k2,.slice a3 b.e.length k3,Qc b.b,Qc b.ref,Qc b.f] 73
theorem bN0{W:World}{b b' o a:Nat}{u:Value}(h:b≠b'):(W.setCell ⟨b',o,none⟩ u).cell? ⟨b,a,none⟩=W.cell? ⟨b,a,none⟩:=by
 grind[World.cell?,Below.heap_setCell]
theorem bNN{w:World}{a:NQ}{d j k:Value}(h:NdW H w a (d,j,k)){i:Nat}{y:Int}(f:a.c[i]?=some y):∃ b J,d= Qe b a.c.length J/\w.cell? ⟨b,i,none⟩=some (Qc y)/\b < w.1.size:=by
 obtain⟨b,J,e,c⟩:=bLE h.k f;exact⟨b,J,e,c,Qp w _ c⟩
theorem cK0{k:Int}(h:cK k=0):3<=k/\k<=8:=by
 grind[cK]
theorem bQR(hN:Nok C L A F Z ns K)(_:L.length<=100000)(_:Z<=100000):∀ (a2:Nat) (y:Int) (w:World),y.toNat < a2->K y->(∃ a,Ndq L y a/\cK a.d=0)->FdW H U L A F ns Y D M B V w->StW Z false g w->
 Calls prog 174 #[Qd U,stA false g Z,Qc y] w (bRS w):=by
 intro a2
 induction a2 with
 |zero=>intro y w h;omega
 |succ a2 ih=>
  intro y w hn hk hc hw hs;obtain⟨a,ha,k9,y0,_⟩:=hN y hk;obtain⟨f,z4,z3⟩:=hc;have e:f=a:=by have h1:=ha.2;have h2:=z4.2;rw[h1]at h2;exact(Oq h2).symm
  subst e;obtain⟨a9,gr,c6,b1,c1,b2,c2,b3,c3,rfl,d2,rfl,T,g0,e0,e1,e2,e3,e4,e5,e6,e7,e8,e9,b8⟩:=hw.Q ha;have c7:0<=(a9:Int)/\(a9:Int) < (L.length:Int):=Oa
  have y6:=Qp w _ g0;have y5:=Qp w _ e0;dsimp only at y6 y5;obtain⟨c,u⟩:∃ c,c=((w.alloc (Qf #[.bool false,Qe g Z Z] 230)).alloc (Qf #[Qc 0,Qc 0] 232)).alloc (ndO f b1 c1 b2 c2 b3 c3):=⟨_,rfl⟩
  have kb:Below w.1.size w c:=by
   rw[u]
   repeat (first|exact Below.refl _ _|refine Below.alloc ?_ (by first|(simp;done)|(simp;omega)) _)
  have kz:c.1.size=w.1.size+3:=by rw[u];simp only[hsz]
  have a5:Below w.1.size w c:=kb
  have q0:c.1[w.1.size]?=some (Qf #[.bool false,Qe g Z Z] 230):=by
   rw[u]
   repeat (first|rw[hal,if_neg (by simp only[hsz];omega)]|rw[hal,if_pos (by simp only[])])
  have J:c.1[w.1.size+1]?=some (Qf #[Qc 0,Qc 0] 232):=by
   rw[u]
   repeat (first|rw[hal,if_neg (by simp only[hsz];omega)]|rw[hal,if_pos (by simp only[hsz])])
  have x:c.1[w.1.size+1+1]?=some (cB6 f b1 c1 b2 c2 b3 c3):=by
   rw[u]
   repeat (first|rw[hal,if_neg (by simp only[hsz];omega)]|rw[hal,if_pos (by simp only[hsz])])
  have HW:Hid (c=_):=u;go_enter func174,ntmps174
  go_upto_region 2 with fail
  rw[<-HW.o];have S:=hs.below a5;have k8:=hw.below a5;have k:Hid (Below w.1.size w c):=kb;have l0:c.cell? ⟨w.1.size+1+1,0,none⟩=some (Qc f.d):=Og x rfl
  have r0:c.cell? ⟨w.1.size+1,0,none⟩=some (Qc 0):=Og J rfl
  have r1:c.cell? ⟨w.1.size+1,1,none⟩=some (Qc 0):=Og J rfl
  have rf:∀ o,c.frozen? ⟨w.1.size+1,o,none⟩=false:=fun o=>by simp[World.frozen?,J]
  have s0:c.cell? ⟨w.1.size,0,none⟩=some (.bool false):=Og q0 rfl
  have s1:c.cell? ⟨w.1.size,1,none⟩=some (Qe g Z Z):=Og q0 rfl
  have X:∀ (a6 y:Int),a6≠y->(a6==y)=false:=fun a6 y h=>by simp[h]
  have d1:=cK0 z3;clear g0 e0 e1 e2 e3 e4 e5 e6 e7 e8 e9 b8 kb a5 hw hs u HW y6 y5
  by_cases O:f.d=3
  ·have t3:(f.d==3)=true:=by simp[O]
   have l3:c.cell? ⟨w.1.size+1+1,3,none⟩=some (Qc f.n):=Og x rfl
   have c9:-999999999<=f.n/\f.n<=999999999:=by
    rcases k9 with⟨⟨_,h⟩|h,_⟩|⟨h,_⟩|⟨h,_⟩|⟨h,_⟩|⟨h,_⟩|⟨h,_⟩|⟨h,_⟩
    ·exact h
    all_goals omega
   go_wp2;exact bodyPost_ret (v:=rgA (_,_)) (by simp[results,results174,go_sem,*];exact⟨rfl,rfl⟩) rfl ⟨_,rfl,(by unfold Rk;omega),(k.o.setCell Od _).setCell Od _⟩
  have t3:=X _ _ O
  by_cases h4:f.d=4
  ·have t4:(f.d==4)=true:=by simp[h4]
   have l9:c.cell? ⟨w.1.size+1+1,9,none⟩=some (Qc f.ref):=Og x rfl
   obtain⟨o1,o2⟩:=y0.1 (.l h4);obtain⟨i,hi⟩:=Int.eq_ofNat_of_zero_le o1;obtain⟨r,c0,b9,q⟩:=S.get (i:=i) Oa;have c8:0<=(i:Int)/\(i:Int) < (Z:Int):=Oa
   rw[hi]at l9;have hR:=q rfl;clear q;go_wp2;exact bodyPost_ret (v:=rgA r) (by simp[results,results174,go_sem,*]) rfl ⟨r,rfl,hR,(k.o.setCell Od _).setCell Od _⟩
  have t4:=X _ _ h4
  by_cases h7:f.d=7
  ·have t7:(f.d==7)=true:=by simp[h7]
   obtain⟨y1,y4,i1,i2,P⟩:=k9.one (.r (.l h7));obtain⟨j,b7,R,E,k7⟩:=bNN T (i:=0) (y:=y1) (by rw[y4];rfl);have k5:f.c.length=1:=by rw[y4];rfl
   simp only[Value.slice.injEq]at R;obtain⟨rfl,-,rfl⟩:=R;have E:=(k.o.cell (p:=⟨j,0,none⟩) k7).t E;have l5:c.cell? ⟨w.1.size+1+1,5,none⟩=some (Qe j 1 c1):=by rw[cell_of_row _ _ _ _ _ _ x,<-k5];rfl
   have k7:j < c.1.size:=Oa
   obtain⟨a8,rfl⟩:=Int.eq_ofNat_of_zero_le (by obtain⟨b4,h,_⟩:=P;exact h.1);clear k5 T y0;go_upto_region 8 with fail
   have h5:∀ W:World,Below c.1.size c W->Calls prog 174 #[Qd U,stA false g Z,Qc (a8:Int)] W (fun e l=>∃ r,e= .returned (rgA r)/\Rk r/\Below c.1.size c l/\Below W.1.size W l):=fun W d=>(ih (a8:Int) W Oa i1 P (k8.below d) (S.below d)).mono fun e l ⟨r,h1,h2,O⟩=>⟨r,h1,h2,d.t (O.mono d.size),O⟩
   have t:∀ W:World,Below c.1.size c W->W.cell? ⟨w.1.size+1,0,none⟩=some (Qc 0)/\W.cell? ⟨w.1.size+1,1,none⟩=some (Qc 0)/\∀ o,W.frozen? ⟨w.1.size+1,o,none⟩=false:=fun W d=>by
    have h:=(d.block (w.1.size+1) Oa).t J;exact⟨Og h rfl,Og h rfl,fun o=>by simp[World.frozen?,h]⟩
   have a7:∀ W:World,Below (c.alloc (Qf #[Qc 0,Qc 0] 232)).drew.1.size (c.alloc (Qf #[Qc 0,Qc 0] 232)).drew W->W.cell? ⟨c.1.size,0,none⟩=some (Qc 0)/\W.cell? ⟨c.1.size,1,none⟩=some (Qc 0)/\(∀ o,W.frozen? ⟨c.1.size,o,none⟩=false)/\W.1[c.1.size]?=some (Qf #[Qc 0,Qc 0] 232):=fun W d=>by
    have h:W.1[c.1.size]?=some (Qf #[Qc 0,Qc 0] 232):=(d.block c.1.size (by show c.1.size < (c.alloc _).1.size;rw[hsz];omega)).t (Qk c _);exact⟨Og h rfl,Og h rfl,fun o=>by simp[World.frozen?,h],h⟩
   have z0:w.1.size < c.1.size:=Oa
   have z1:w.1.size+1 < c.1.size:=Oa
   have z2:w.1.size+1+1 < c.1.size:=Oa
   clear kz;go_cut [8,15]from 35 to 72 (fun v8 _ l=>∃ (b:Nat) (r:Int × Int),v8= Qd b/\Rk r/\l.cell? ⟨b,0,none⟩=some (Qc r.1)/\l.cell? ⟨b,1,none⟩=some (Qc r.2)/\Below c.1.size c l)
   case first=>
    go_region_with (go_at_call 174;refine(h5 _ (by repeat (first|exact Below.refl _ _|refine Below.drew ?_|refine Below.alloc ?_ Od _))).mono ?_;rintro e W ⟨⟨m,s⟩,rfl,q,n,d⟩;obtain⟨R0,R1,RF⟩:=t W n;try (have nn:=a7 W d;obtain⟨n0,n1,nf,nr⟩:=nn))
    all_goals have z5:=n.size
    all_goals go_wp2
    all_goals go_meet
    all_goals first
     |(have nz:=aM (o:=1) (Qc s) (aM (o:=0) (Qc m) nr)
      exact⟨_,(m,s),rfl,q,Og nz rfl,Og nz rfl,(n.setCell Ol _).setCell Ol _⟩)
     |exact⟨_,(m,s),rfl,q,Od,Od,n.alloc z5 _⟩
   case rest=>
    obtain⟨b,⟨m,s⟩,rfl,q,n0,n1,n⟩:=hcut;obtain⟨R0,R1,RF⟩:=t wc n;clear h5 t a7;unfold Rk at q;dsimp only at q n0 n1
    by_cases hm:m= -9223372036854775808
    ·have tm:(m==-9223372036854775808)=true:=by simp[hm]
     have zz:w.1.size+1 < wc.1.size:=Nat.lt_of_lt_of_le z1 n.size;go_wp2_with (go_at_call 111;refine(bOH _).mono ?_;rintro e W ⟨rfl,d⟩;obtain⟨hc,hf⟩:=bNB d)
     exact bodyPost_ret (v:=rgA (-9223372036854775808,9223372036854775807)) (by simp[results,results174,go_sem,*]) rfl ⟨_,rfl,(by unfold Rk;omega),(((k.o.t (n.mono k.o.size)).t (d.mono (Qm k.o.size n.size))).setCell Od _).setCell Od _⟩
    ·have tm:=X _ _ hm;have w1:IntKind.i64.wrap (-m)= -m:=IntWalk.i64_in _ Oa;have w2:IntKind.i64.wrap (-s)= -s:=IntWalk.i64_in _ Oa;go_wp2;exact bodyPost_ret (v:=rgA (-s,-m)) (by simp[results,results174,go_sem,*]) rfl ⟨_,rfl,(by unfold Rk;dsimp only;omega),((k.o.t (n.mono k.o.size)).setCell Od _).setCell Od _⟩
  have t7:=X _ _ h7
  by_cases h8:f.d=8
  ·have t8:(f.d==8)=true:=by simp[h8]
   obtain⟨y1,y2,hy,⟨i1,i2,P⟩,j1,j2,j3⟩:=k9.two (.l h8);obtain⟨j,b7,R,E,k7⟩:=bNN T (i:=0) (y:=y1) (by rw[hy];rfl);obtain⟨g7,c5,Q,y3,y9⟩:=bNN T (i:=1) (y:=y2) (by rw[hy];rfl);have k5:f.c.length=2:=by rw[hy];rfl
   simp only[Value.slice.injEq]at R Q;obtain⟨rfl,-,rfl⟩:=R;obtain⟨Q,-,rfl⟩:=Q;simp only[Option.some.injEq,Addr.mk.injEq]at Q;obtain⟨rfl,-⟩:=Q;have E:=(k.o.cell (p:=⟨j,0,none⟩) k7).t E;have y3:=(k.o.cell (p:=⟨j,1,none⟩) k7).t y3;have l2:c.cell? ⟨w.1.size+1+1,2,none⟩=some (.string f.s):=Og x rfl
   have l5:c.cell? ⟨w.1.size+1+1,5,none⟩=some (Qe j 2 c1):=by rw[cell_of_row _ _ _ _ _ _ x,<-k5];rfl
   obtain⟨z,rfl⟩:=Int.eq_ofNat_of_zero_le (by obtain⟨b4,h,_⟩:=P;exact h.1);obtain⟨v,rfl⟩:=Int.eq_ofNat_of_zero_le (by obtain⟨b4,h,_⟩:=j3;exact h.1);have k6:j < c.1.size:=Oa
   clear k5 T y0 y9;go_upto_region 13 with fail
   have b5:∀ W:World,Below c.1.size c W->Calls prog 174 #[Qd U,stA false g Z,Qc (z:Int)] W (bRS W):=fun W d=>ih (z:Int) W Oa i1 P (k8.below d) (S.below d);have b6:∀ W:World,Below c.1.size c W->Calls prog 174 #[Qd U,stA false g Z,Qc (v:Int)] W (bRS W):=fun W d=>ih (v:Int) W Oa j1 j3 (k8.below d) (S.below d)
   have t:∀ W:World,Below c.1.size c W->(W.cell? ⟨w.1.size+1+1,2,none⟩=some (.string f.s)/\W.cell? ⟨w.1.size+1+1,5,none⟩=some (Qe j 2 c1)/\W.cell? ⟨j,0,none⟩=some (Qc (z:Int))/\W.cell? ⟨j,1,none⟩=some (Qc (v:Int))/\W.cell? ⟨w.1.size,0,none⟩=some (.bool false)/\W.cell? ⟨w.1.size,1,none⟩=some (Qe g Z Z))/\W.cell? ⟨w.1.size+1,0,none⟩=some (Qc 0)/\W.cell? ⟨w.1.size+1,1,none⟩=some (Qc 0)/\∀ o,W.frozen? ⟨w.1.size+1,o,none⟩=false:=fun W d=>by
    have h:=(d.block (w.1.size+1) Oa).t J;exact⟨⟨(d.cell (by show w.1.size+1+1 < _;omega)).t l2,(d.cell (by show w.1.size+1+1 < _;omega)).t l5,(d.cell k6).t E,(d.cell k6).t y3,(d.cell (by show w.1.size < _;omega)).t s0,(d.cell (by show w.1.size < _;omega)).t s1⟩,Og h rfl,Og h rfl,fun o=>by simp[World.frozen?,h]⟩
   have I:∀ b,b≠w.1.size+1->∀ o z v (W:World),((W.setCell ⟨w.1.size+1,0,none⟩ z).setCell ⟨w.1.size+1,1,none⟩ v).cell? ⟨b,o,none⟩=W.cell? ⟨b,o,none⟩:=fun b h o z v W=>(bN0 h).t (bN0 h);have z8:w.1.size+1+1≠w.1.size+1:=Oa
   have z9:j≠w.1.size+1:=Oa
   have z7:w.1.size≠w.1.size+1:=Oa
   clear ih S k8 kz q0 J x
   go_region_held3 (fun l=>l.cell? ⟨w.1.size+1+1,2,none⟩=some (.string f.s)/\l.cell? ⟨w.1.size+1+1,5,none⟩=some (Qe j 2 c1)/\l.cell? ⟨j,0,none⟩=some (Qc (z:Int))/\l.cell? ⟨j,1,none⟩=some (Qc (v:Int))/\l.cell? ⟨w.1.size,0,none⟩=some (.bool false)/\l.cell? ⟨w.1.size,1,none⟩=some (Qe g Z Z))
    (first
      |exact G.o
      |exact S2.o
      |exact S3.o
      |(refine⟨?_,?_,?_,?_,?_,?_⟩<;>assumption)
      |exact(let⟨p1,p2,p3,p4,p5,p6⟩:=S3.o;⟨(I _ z8 _ _ _ _).t p1,(I _ z8 _ _ _ _).t p2,(I _ z9 _ _ _ _).t p3,(I _ z9 _ _ _ _).t p4,(I _ z7 _ _ _ _).t p5,(I _ z7 _ _ _ _).t p6⟩)
      |go_keep)
    (first
      |(go_at_call 232;refine(bT8 _ ra N _ y8 y7).mono ?_;rintro e Wd ⟨⟨m,s⟩,rfl,q,Bd⟩;have a4:Below c.1.size c Wd:=a3.t (Bd.mono a3.size);have S3:Hid _:=(t Wd a4).1;obtain⟨R0,R1,RF⟩:=(t Wd a4).2)
      |(go_at_call 174;refine(b6 _ a1).mono ?_;rintro e Wb ⟨N,rfl,y7,Bb⟩;have a3:Below c.1.size c Wb:=a1.t (Bb.mono a1.size);have S2:Hid _:=(t Wb a3).1)
      |(go_at_call 174;refine(b5 _ ((Below.refl _ _).drew)).mono ?_;rintro e Wa ⟨ra,rfl,y8,Ba⟩;have a1:Below c.1.size c Wa:=((Below.refl _ _).drew).t Ba;have G:Hid _:=(t Wa a1).1))
   go_wp2;exact bodyPost_ret (v:=rgA (m,s)) (by simp[results,results174,go_sem,*]) rfl ⟨_,rfl,q,((k.o.t (a4.mono k.o.size)).setCell (by show w.1.size<=w.1.size+1;omega) _).setCell (by show w.1.size<=w.1.size+1;omega) _⟩
  have t8:=X _ _ h8;go_wp2_with (go_at_call 111;refine(bOH _).mono ?_;rintro e W ⟨rfl,d⟩;obtain⟨hc,hf⟩:=bNB d)
  exact bodyPost_ret (v:=rgA (_,_)) (by simp[results,results174,go_sem,*];exact⟨rfl,rfl⟩) rfl ⟨_,rfl,(by unfold Rk;omega),((k.o.t (d.mono k.o.size)).setCell Od _).setCell Od _⟩
end
section
variable {H U:Nat} {L C:List NQ} {A F:List Int} {ns Z g:Nat} {Y D M B:Value} {V:List V3} {K:Int->Prop}
def bU5(Z:Nat)(w:World):Ending->World->Prop:=fun e w'=>∃ d g,e= .returned (stA d g Z)/\StW Z d g w'/\Below w.1.size w w'
theorem bTO:∀ (R:List (Int × Int)) (i:Nat) (r:Int × Int) (a:Int),R[i]?=some r->(rgC R).set (i*2) (Qc a)=rgC (R.set i (a,r.2))
 |r0::R,0,r,a,h=>by
  simp only[List.getElem?_cons_zero,Option.some.injEq]at h;subst h;rfl
 |r0::R,i+1,r,a,h=>by
  have b:(i+1)*2=i*2+1+1:=Oa
  rw[b,List.set_cons_succ,rgC,rgC,List.set_cons_succ,List.set_cons_succ,bTO R i r a (by simpa using h)]
 |[],_,_,_,h=>by simp at h
theorem bTN:∀ (R:List (Int × Int)) (i:Nat) (r:Int × Int) (a:Int),R[i]?=some r->(rgC R).set (i*2+1) (Qc a)=rgC (R.set i (r.1,a))
 |r0::R,0,r,a,h=>by
  simp only[List.getElem?_cons_zero,Option.some.injEq]at h;subst h;rfl
 |r0::R,i+1,r,a,h=>by
  have b:(i+1)*2+1=i*2+1+1+1:=Oa
  rw[b,List.set_cons_succ,rgC,rgC,List.set_cons_succ,List.set_cons_succ,bTN R i r a (by simpa using h)]
 |[],_,_,_,h=>by simp at h
def bOV(g:Nat)(R:List (Int × Int))(w:World):Prop:=w.1[g]?=some (.cells (rgC R).toArray 232 (0,0))
section
variable {R:List (Int × Int)} {i:Nat} {r:Int × Int} {w:World}
theorem bOV.set0(h:bOV g R w)(b:R[i]?=some r)(a:Int):bOV g (R.set i (a,r.2)) (w.setCell ⟨g,i*2,none⟩ (Qc a)):=by
 rw[bOV,aM _ h,<-bTO R i r a b];simp
theorem bOV.set1(h:bOV g R w)(b:R[i]?=some r)(a:Int):bOV g (R.set i (r.1,a)) (w.setCell ⟨g,i*2+1,none⟩ (Qc a)):=by
 rw[bOV,aM _ h,<-bTN R i r a b];simp
theorem bOV.get(h:bOV g R w)(a:R[i]?=some r):w.cell? ⟨g,i*2,none⟩=some (Qc r.1)/\w.cell? ⟨g,i*2+1,none⟩=some (Qc r.2)/\∀ o,w.frozen? ⟨g,o,none⟩=false:=by
 obtain⟨b,c⟩:=bQU R i r a
 exact⟨by rw[cell_of_row _ _ _ _ _ _ h];simp[*],by rw[cell_of_row _ _ _ _ _ _ h];simp[*],fun o=>by
  have h:w.1[g]?=some (.cells (rgC R).toArray 232 (0,0)):=h;simp[World.frozen?,h]⟩
theorem bOV.st(h:bOV g R w)(b:R.length=Z){d:Bool}(a:d=false->∀ r∈R,Rk r):StW Z d g w:=⟨R,b,h,a⟩
theorem bOV.lt(h:bOV g R w):g < w.1.size:=(Oo h)
theorem bXL(a:∀ r∈R,Rk r)(h:Rk r):∀ x∈R.set i r,Rk x:=Qg
end
abbrev bMB(b:NQ)(a1:Option Addr)(k1:Nat)(a2:Option Addr)(k2:Nat)(a3:Option Addr)(k3:Nat):Obj:= Qf #[Qc b.d,Qc b.at_,.string b.s,Qc b.n,Qc b.mid,.slice a1 b.c.length k1,.slice a2 b.g.length k2,.slice a3 b.e.length k3,Qc b.b,Qc b.ref,Qc b.f] 73
def Oth(i:Nat)(R:List (Int × Int)):Prop:=∀ j q,R[j]?=some q->j≠i->Rk q
theorem Oth.set{i:Nat}{R:List (Int × Int)}(h:Oth i R)(z:Int × Int):Oth i (R.set i z):=fun j q b a=>h j q Qg a
theorem Oth.all{i:Nat}{R:List (Int × Int)}{r:Int × Int}(h:Oth i R)(d:R[i]?=some r)(c:Rk r):∀ q∈R,Rk q:=fun q b=>by
 obtain⟨j,a⟩:=List.mem_iff_getElem?.1 b
 by_cases e:j=i
 ·grind
 ·exact h j q a e
structure CuW(I g2 Z i:Nat)(x:Int × Int)(o:Obj)(w:World)(R:List (Int × Int))(r:Int × Int)(w':World):Prop where
 p10:w'.1[I]?=some (Qf #[.bool false,Qe g2 Z Z] 230)
 p7:w'.1[w.1.size+1]?=some (Qf #[Qc x.1,Qc x.2] 232)
 p8:w'.1[w.1.size+1+1]?=some (Qf #[.bool false,.slice none 0 0] 230)
 p9:w'.1[w.1.size+1+1+1]?=some o
 row:bOV g2 R w'
 below:Below w.1.size w w'
 lt:w.1.size+4<=g2
 ne:g2 < I
 len:R.length=Z
 get:R[i]?=some r
 lo:I6 r.1
 hi:I6 r.2
 oth:Oth i R
theorem CuW.dr{I a Z i:Nat}{x r:Int × Int}{o:Obj}{w w':World}{R:List (Int × Int)}(h:CuW I a Z i x o w R r w')(n:Nat):CuW I a Z i x o w R r (w'.drewN n):=⟨h.p10,h.p7,h.p8,h.p9,h.row,bM5 h.below n,h.lt,h.ne,h.len,h.get,h.lo,h.hi,h.oth⟩
theorem CuW.set0{I b Z i:Nat}{x r:Int × Int}{o:Obj}{w w':World}{R:List (Int × Int)}(h:CuW I b Z i x o w R r w'){a:Int}(f:I6 a):CuW I b Z i x o w (R.set i (a,r.2)) (a,r.2) (w'.setCell ⟨b,i*2,none⟩ (Qc a)):=by
 have d:=h.ne;have e:=h.lt;have c:∀ k,k≠b->∀ o u,(w'.setCell ⟨b,o,none⟩ u).1[k]?=w'.1[k]?:=(by grind[Below.heap_setCell]);have hi:=(List.getElem?_eq_some_iff.1 h.get).1;exact⟨(c _ Oa _ _).t h.p10,(c _ Oa _ _).t h.p7,(c _ Oa _ _).t h.p8,(c _ Oa _ _).t h.p9,h.row.set0 h.get a,h.below.setCell Qg _,e,d,by rw[List.length_set];exact h.len,Qh,f,h.hi,h.oth.set _⟩
theorem CuW.set1{I b Z i:Nat}{x r:Int × Int}{o:Obj}{w w':World}{R:List (Int × Int)}(h:CuW I b Z i x o w R r w'){a:Int}(f:I6 a):CuW I b Z i x o w (R.set i (r.1,a)) (r.1,a) (w'.setCell ⟨b,i*2+1,none⟩ (Qc a)):=by
 have d:=h.ne;have e:=h.lt;have c:∀ k,k≠b->∀ o u,(w'.setCell ⟨b,o,none⟩ u).1[k]?=w'.1[k]?:=(by grind[Below.heap_setCell]);have hi:=(List.getElem?_eq_some_iff.1 h.get).1;exact⟨(c _ Oa _ _).t h.p10,(c _ Oa _ _).t h.p7,(c _ Oa _ _).t h.p8,(c _ Oa _ _).t h.p9,h.row.set1 h.get a,h.below.setCell Qg _,e,d,by rw[List.length_set];exact h.len,Qh,h.lo,f,h.oth.set _⟩
theorem CuW.cells{I a Z i:Nat}{x r:Int × Int}{a':NQ}{b c d:Option Addr}{c1 c2 c3:Nat}{w w':World}{R:List (Int × Int)}(h:CuW I a Z i x (bMB a' b c1 c c2 d c3) w R r w')(hi:a'.ref=i):
 (w'.cell? ⟨w.1.size+1,0,none⟩=some (Qc x.1)/\w'.cell? ⟨w.1.size+1,1,none⟩=some (Qc x.2))/\(w'.cell? ⟨I,0,none⟩=some (.bool false)/\w'.cell? ⟨I,1,none⟩=some (Qe a Z Z)/\∀ o,w'.frozen? ⟨I,o,none⟩=false)
   /\w'.cell? ⟨w.1.size+1+1+1,9,none⟩=some (Qc (i:Int))/\(w'.cell? ⟨a,i*2,none⟩=some (Qc r.1)/\w'.cell? ⟨a,i*2+1,none⟩=some (Qc r.2)/\∀ o,w'.frozen? ⟨a,o,none⟩=false)
   /\(w'.cell? ⟨w.1.size+1+1,0,none⟩=some (.bool false)/\w'.cell? ⟨w.1.size+1+1,1,none⟩=some (.slice none 0 0)/\∀ o,w'.frozen? ⟨w.1.size+1+1,o,none⟩=false):=
 ⟨⟨Og h.p7 rfl,Og h.p7 rfl⟩,⟨Og h.p10 rfl,Og h.p10 rfl,fun o=>by simp[World.frozen?,h.p10]⟩,by rw[cell_of_row _ _ _ _ _ _ h.p9,<-hi];rfl,h.row.get h.get,⟨Og h.p8 rfl,Og h.p8 rfl,fun o=>by simp[World.frozen?,h.p8]⟩⟩
theorem bU2(hN:Nok C L A F Z ns K)(_:L.length<=100000)(hv:Z<=100000)(y:Int)(d:Bool)(x:Int × Int)(hx:I6 x.1/\I6 x.2)(w:World)(hk:K y)(hw:FdW H U L A F ns Y D M B V w)(N:StW Z d g w):
 Calls prog 176 #[Qd U,stA d g Z,Qc y,rgA x] w (bU5 Z w):=by
 obtain⟨c,ha,b1,y1,_⟩:=hN y hk;obtain⟨q,gr,a4,j,c1,k,c2,l,c3,rfl,a7,rfl,y2,g0,e0,e1,e2,e3,e4,e5,e6,e7,e8,e9,a2⟩:=hw.Q ha;have a5:0<=(q:Int)/\(q:Int) < (L.length:Int):=Oa
 have k8:=Qp w _ g0;have k7:=Qp w _ e0;dsimp only at k8 k7;have k3:U < w.1.size+1:=Oa
 have k2:U < w.1.size+1+1:=Oa
 have k1:gr < w.1.size+1:=Oa
 have k0:gr < w.1.size+1+1:=Oa
 obtain⟨a,p⟩:∃ a,a=(((w.alloc (Qf #[.bool d,Qe g Z Z] 230)).alloc (Qf #[Qc x.1,Qc x.2] 232)).alloc (Qf #[.bool false,.slice none 0 0] 230)).alloc (ndO c j c1 k c2 l c3):=⟨_,rfl⟩
 have kb:Below w.1.size w a:=by
  rw[p]
  repeat (first|exact Below.refl _ _|refine Below.alloc ?_ (by first|(simp;done)|(simp;omega)) _)
 have kz:a.1.size=w.1.size+4:=by rw[p];simp only[hsz]
 have q0:a.1[w.1.size]?=some (Qf #[.bool d,Qe g Z Z] 230):=by
  rw[p]
  repeat (first|rw[hal,if_neg (by simp only[hsz];omega)]|rw[hal,if_pos (by simp only[])])
 have q1:a.1[w.1.size+1]?=some (Qf #[Qc x.1,Qc x.2] 232):=by
  rw[p]
  repeat (first|rw[hal,if_neg (by simp only[hsz];omega)]|rw[hal,if_pos (by simp only[hsz])])
 have E:a.1[w.1.size+1+1]?=some (Qf #[.bool false,.slice none 0 0] 230):=by
  rw[p]
  repeat (first|rw[hal,if_neg (by simp only[hsz];omega)]|rw[hal,if_pos (by simp only[hsz])])
 have q3:a.1[w.1.size+1+1+1]?=some (bMB c j c1 k c2 l c3):=by
  rw[p]
  repeat (first|rw[hal,if_neg (by simp only[hsz];omega)]|rw[hal,if_pos (by simp only[hsz])])
 have HW:Hid (a=_):=p;go_enter func176,ntmps176
 go_upto_region 2 with fail
 rw[<-HW.o];have h8:=N.below kb;have G:Hid (Below w.1.size w a):=kb;have s0:a.cell? ⟨w.1.size,0,none⟩=some (.bool d):=Og q0 rfl
 have s1:a.cell? ⟨w.1.size,1,none⟩=some (Qe g Z Z):=Og q0 rfl
 have l0:a.cell? ⟨w.1.size+1+1+1,0,none⟩=some (Qc c.d):=Og q3 rfl
 have u0:a.cell? ⟨w.1.size+1+1,0,none⟩=some (.bool false):=Og E rfl
 have u1:a.cell? ⟨w.1.size+1+1,1,none⟩=some (.slice none 0 0):=Og E rfl
 have t:∀ o,a.frozen? ⟨w.1.size+1+1,o,none⟩=false:=fun o=>by simp[World.frozen?,E]
 clear g0 e0 e1 e2 e3 e4 e5 e6 e7 e8 e9 a2 kb hw p HW k8 k7 k3 k2 k1 k0 y2;have z:∀ a1 v:Value,Below w.1.size w ((a.setCell ⟨w.1.size+1+1,0,none⟩ a1).setCell ⟨w.1.size+1+1,1,none⟩ v):=fun a1 v=>(G.o.setCell (by show w.1.size<=w.1.size+1+1;omega) _).setCell (by show w.1.size<=w.1.size+1+1;omega) _;cases d
 case true=>
  go_wp2;exact bodyPost_ret (v:=stA true g Z) (by simp[results,results176,go_sem,*]) rfl ⟨_,_,rfl,N.below (z _ _),z _ _⟩
 by_cases h4:c.d=4
 ·have t4:(c.d !=4)=false:=by simp[h4]
  obtain⟨o1,o2⟩:=y1.1 (.l h4);obtain⟨i,hi⟩:=Int.eq_ofNat_of_zero_le o1;have a6:0<=(i:Int)/\(i:Int) < (Z:Int):=Oa
  clear N;go_upto_region 4 with fail
  go_wp2_with (go_at_call 233;refine(bPY false g Z _ (by first|exact h8|exact h8.below (by repeat (first|exact Below.refl _ _|refine Below.drew ?_|refine Below.alloc ?_ Od _))) hv).mono ?_;rintro e W ⟨f,rfl,k4,hS,J⟩)
  obtain⟨R,y0,h6,k6⟩:=hS;obtain⟨r,hr⟩:∃ r,R[i]?=some r:=⟨R[i]'Oa,List.getElem?_eq_getElem _⟩;have h9:Rk r:=k6 rfl r (Qr hr);have k5:=J.size;have k5:a.1.size<=W.1.size:=k5;have k4:a.1.size<=f:=k4;have k9:=bOV.lt h6;obtain⟨u,s⟩:∃ u,u=W.alloc (Qf #[.bool false,Qe f Z Z] 230):=⟨_,rfl⟩
  have Q:∀ q,q < a.1.size->u.1[q]?=a.1[q]?:=fun q hk=>by
   rw[s,hal,Oh];exact J.block q hk
  have h:CuW W.1.size f Z i x (bMB c j c1 k c2 l c3) w R r u:=⟨by rw[s];exact Qk W _,(Q _ Oa).t q1,(Q _ Oa).t E,(Q _ Oa).t q3,by
   rw[bOV,s,hal,Oh];exact h6,by
   rw[s];exact(G.o.t (Below.mono J G.o.size)).alloc (Oi G.o.size) _,Oa,k9,y0,hr,by have:=h9;unfold Rk at this;unfold I6;omega,by have:=h9;unfold Rk at this;unfold I6;omega,fun b2 a3 hq _=>k6 rfl a3 (Qr hq)⟩
  rw[<-s];clear s Q h6 k6 h9 hr y0 k4 k5 J q0 q1 E q3 s0 s1 l0 u0 u1 t h8 kz k9 z;generalize W.1.size=I at*;have y3:=h;obtain⟨⟨O,P⟩,⟨S,T,nf⟩,X,⟨r0,r1,rf⟩,u0,u1,t⟩:=h.cells hi;have b:Hid (CuW I f Z i x (bMB c j c1 k c2 l c3) w R r u):=h;clear h y3;obtain⟨bt,m⟩:∃ bt,Hid (bt=decide (r.1 < x.1)):=⟨_,rfl⟩;have tb:decide (x.1 > r.1)=bt:=m.o.symm;go_quiet (fail)
  go_upto_if 37 with fail
  go_cut []from 28 to 80 (fun w'=>∃ R r,CuW I f Z i x (bMB c j c1 k c2 l c3) w R r w')
  case first=>
   cases bt
   ·go_wp2;go_meet;exact⟨_,_,b.o.dr _⟩
   ·go_wp2;go_meet;exact⟨_,_,(b.o.dr _).set0 hx.1⟩
  case rest=>
   clear O P S T nf X r0 r1 rf u0 u1 t b m tb;obtain⟨R,r,h⟩:=hcut;obtain⟨⟨O,P⟩,⟨S,T,nf⟩,X,⟨r0,r1,rf⟩,u0,u1,t⟩:=h.cells hi;have b:Hid (CuW I f Z i x (bMB c j c1 k c2 l c3) w R r wc):=h;clear h;generalize wc=W3 at*;obtain⟨bt,m⟩:∃ bt,Hid (bt=decide (x.2 < r.2)):=⟨_,rfl⟩;have tb:decide (x.2 < r.2)=bt:=m.o.symm;go_upto_region 7 with fail
   go_quiet (fail)
   go_upto_if 55 with fail
   go_cut []from 28 to 80 (fun w'=>∃ R r,CuW I f Z i x (bMB c j c1 k c2 l c3) w R r w')
   case first=>
    cases bt
    ·go_wp2;go_meet;exact⟨_,_,b.o.dr _⟩
    ·go_wp2;go_meet;exact⟨_,_,(b.o.dr _).set1 hx.2⟩
   case rest=>
    clear O P S T nf X r0 r1 rf u0 u1 t b m tb;obtain⟨R,r,h⟩:=hcut;obtain⟨⟨O,P⟩,⟨S,T,nf⟩,X,⟨r0,r1,rf⟩,u0,u1,t⟩:=h.cells hi;have b:Hid (CuW I f Z i x (bMB c j c1 k c2 l c3) w R r wc):=h;clear h;generalize wc=W4 at*;obtain⟨bt,m⟩:∃ bt,Hid (bt=decide (r.2 < r.1)):=⟨_,rfl⟩;have tb:decide (r.1 > r.2)=bt:=m.o.symm;have a9:=b.o.ne;have a8:=b.o.lt;have x1:w.1.size+1+1≠I:=Oa
    have x2:I≠w.1.size+1+1:=Oa
    go_upto_region 9 with fail
    go_region
    all_goals go_wp2
    refine bodyPost_ret (v:=stA bt f Z) (by simp[results,results176,go_sem,*]) rfl ⟨_,_,rfl,bOV.st (R:=R) ?_ b.o.len ?_,?_⟩
    ·exact(Om (by show f≠w.1.size+1+1;omega)).t ((Om (by show f≠w.1.size+1+1;omega)).t ((Om (by show f≠I;omega)).t b.o.row))
    ·intro e;refine b.o.oth.all b.o.get ?_;have h1:=b.o.lo;have h2:=b.o.hi;have h3: ¬r.2 < r.1:=of_decide_eq_false (m.o.symm.t e);unfold I6 at h1 h2;unfold Rk;omega
    ·exact((((b.o.below.setCell (by show w.1.size<=I;omega) _).setCell (by show w.1.size<=w.1.size+1+1;omega) _).setCell (by show w.1.size<=w.1.size+1+1;omega) _).drew)
 ·have t4:(c.d !=4)=true:=by simp[h4]
  go_wp2;exact bodyPost_ret (v:=stA false g Z) (by simp[results,results176,go_sem,*]) rfl ⟨_,_,rfl,N.below (z _ _),z _ _⟩
end
section
variable {H U:Nat} {L C:List NQ} {A F:List Int} {ns Z g:Nat} {Y D M B:Value} {V:List V3} {K:Int->Prop}
theorem StW.dead{Z g:Nat}{d:Bool}{w:World}(h:StW Z d g w):StW Z true g w:=by
 obtain⟨R,a,b,_⟩:=h;exact⟨R,a,b,fun e=>by cases e⟩
theorem StW.ne{Z g b:Nat}{d:Bool}{w:World}{cs:Array Value}(h:StW Z d g w)(c:w.1[b]?=some (.cells cs 230 (0,0))):g≠b:=by
 rintro rfl;obtain⟨R,_,a,_⟩:=h
 grind
abbrev stO(d:Bool)(g Z:Nat):Obj:= Qf #[.bool d,Qe g Z Z] 230
abbrev rgO(r:Int × Int):Obj:= Qf #[Qc r.1,Qc r.2] 232
abbrev noO:Obj:= Qf #[.bool false,.slice none 0 0] 230
section
variable {w:World} {b:Nat} {d:Bool} {r:Int × Int}
theorem bKX(h:w.1[b]?=some (stO d g Z)):w.cell? ⟨b,0,none⟩=some (.bool d)/\w.cell? ⟨b,1,none⟩=some (Qe g Z Z)/\∀ o,w.frozen? ⟨b,o,none⟩=false:=
 ⟨Og h rfl,Og h rfl,(by grind[World.frozen?])⟩
theorem bL4(h:w.1[b]?=some (rgO r)):w.cell? ⟨b,0,none⟩=some (Qc r.1)/\w.cell? ⟨b,1,none⟩=some (Qc r.2)/\∀ o,w.frozen? ⟨b,o,none⟩=false:=
 ⟨Og h rfl,Og h rfl,(by grind[World.frozen?])⟩
theorem bLG(h:w.1[b]?=some noO):w.cell? ⟨b,0,none⟩=some (.bool false)/\w.cell? ⟨b,1,none⟩=some (.slice none 0 0)/\∀ o,w.frozen? ⟨b,o,none⟩=false:=
 ⟨Og h rfl,Og h rfl,(by grind[World.frozen?])⟩
theorem bLL{w W:World}{k:Nat}{o:Obj}(a:Below w.1.size w W)(c:k < w.1.size):(W.alloc o).1[k]?=w.1[k]?:=by
 rw[hal,if_neg (Oi a.size)];exact a.block k c
end
def ExK(L:List NQ)(K:Int->Prop)(y:Int):Prop:=K y/\∃ a,Ndq L y a/\cK a.d=0
theorem bR2(hN:Nok C L A F Z ns K)(hZ:L.length<=100000)(G:Z<=100000)(a b:Int)(or:Bool)(w:World)(ha:ExK L K a)(hb:ExK L K b)(hw:FdW H U L A F ns Y D M B V w)(hs:StW Z false g w):
 Calls prog 175 #[Qd U,stA false g Z,Qc a,Qc b,.bool or] w (bU5 Z w):=by
 obtain⟨k,z⟩:∃ k,k=(w.alloc (stO false g Z)).alloc noO:=⟨_,rfl⟩
 have I:Below w.1.size w k:=by
  rw[z];exact((Below.refl _ _).alloc Ol _).alloc (by rw[hsz];omega) _
 have kz:k.1.size=w.1.size+2:=by rw[z];simp only[hsz]
 have q6:k.1[w.1.size]?=some (stO false g Z):=by
  rw[z]
  repeat (first|rw[hal,if_neg (by simp only[hsz];omega)]|rw[hal,if_pos (by simp only[])])
 have a7:k.1[w.1.size+1]?=some noO:=by
  rw[z]
  repeat (first|rw[hal,if_neg (by simp only[hsz];omega)]|rw[hal,if_pos (by simp only[hsz])])
 have HW:Hid (k=_):=z;clear z;go_enter func175,ntmps175
 go_upto_region 1 with fail
 rw[<-HW.o];have k2:w.1.size < k.1.size:=Oa
 obtain⟨x,y,_⟩:=bKX q6;clear HW;go_upto_region 2 with(go_at_call 174;refine(bQR hN hZ G _ a _ (Nat.lt_succ_self _) ha.1 ha.2 (hw.below I) (hs.below I)).mono ?_;rintro e W ⟨O,rfl,hx,c⟩)
 obtain⟨p,q⟩:∃ p,p=W.alloc (rgO O):=⟨_,rfl⟩;have X:=c.size;have p6:p.1[w.1.size]?=some (stO false g Z):=by rw[q];exact(bLL c Oa).t q6
 have N:p.1[w.1.size+1]?=some noO:=by rw[q];exact(bLL c Oa).t a7
 have a1:p.1[W.1.size]?=some (rgO O):=by rw[q];exact Qk W _
 have J:Below w.1.size w p:=by rw[q];exact(I.t (c.mono I.size)).alloc Oa _
 have b2:p.1.size=W.1.size+1:=by rw[q];exact hsz _ _
 rw[<-q];clear q c I q6 a7 x y;obtain⟨x,y,_⟩:=bKX p6;go_upto_region 3 with(go_at_call 174;refine(bQR hN hZ G _ b _ (Nat.lt_succ_self _) hb.1 hb.2 (hw.below J) (hs.below J)).mono ?_;rintro e o ⟨a6,rfl,hy,c⟩)
 obtain⟨f,m⟩:∃ f,f=o.alloc (rgO a6):=⟨_,rfl⟩;have k0:=c.size;have r6:f.1[w.1.size]?=some (stO false g Z):=by rw[m];exact(bLL c Oa).t p6
 have a2:f.1[w.1.size+1]?=some noO:=by rw[m];exact(bLL c Oa).t N
 have a3:f.1[W.1.size]?=some (rgO O):=by rw[m];exact(bLL c Oa).t a1
 have a5:f.1[o.1.size]?=some (rgO a6):=by rw[m];exact Qk o _
 have u:Below w.1.size w f:=by rw[m];exact(J.t (c.mono J.size)).alloc Oa _
 have b3:f.1.size=o.1.size+1:=by rw[m];exact hsz _ _
 rw[<-m];have b9:w.1.size+1 < W.1.size:=Oa
 have c5:W.1.size < o.1.size:=Oa
 have c6:o.1.size < f.1.size:=Oa
 clear m c J p6 N a1 x y kz b2 X k0 b3 k2;generalize W.1.size=a8 at*;generalize o.1.size=Q at*;obtain⟨x,y,_⟩:=bKX r6;obtain⟨x0,x1,_⟩:=bL4 a3;obtain⟨y0,y1,_⟩:=bL4 a5;go_upto_if 24 with fail
 go_cut [13]from 25 to 58 (fun v w'=>∃ aIX:Int,v= Qc aIX/\f=w')
 case first=>
  cases or
  ·go_wp2;go_meet;exact⟨_,rfl,rfl⟩
  ·go_wp2;go_meet;exact⟨_,rfl,rfl⟩
 case rest=>
  obtain⟨aIX,rfl,rfl⟩:=hcut;go_upto_region 6 with fail
  go_cut [36]from 25 to 58 (fun v w'=>∃ t:Bool,v= .bool t/\f=w')
  case first=>
   obtain⟨t1,c9⟩:∃ t1,(a6.2==-9223372036854775808)=t1:=⟨_,rfl⟩;obtain⟨t2,d1⟩:∃ t2,(O.1==9223372036854775807)=t2:=⟨_,rfl⟩;cases or<;>cases t1<;>cases t2
   all_goals
    go_wp2;go_meet;exact⟨_,rfl,rfl⟩
  case rest=>
   obtain⟨t,rfl,rfl⟩:=hcut;have T:=hs.below u;have h8:=hw.below u;have k3:w.1.size < f.1.size:=Oa
   have h9:w.1.size+1 < f.1.size:=Oa
   cases t
   ·go_upto_region 11 with(go_at_call 176;refine(bU2 hN hZ G a false (_,_) ⟨by unfold I6;omega,bO5 _⟩ _ ha.1 h8 T).mono ?_;rintro e j ⟨P,g1,rfl,s,c⟩)
    obtain⟨h,l⟩:∃ h,h=j.alloc (stO P g1 Z):=⟨_,rfl⟩;have X:=c.size;have N:h.1[w.1.size+1]?=some noO:=by rw[l];exact(bLL c Oa).t a2
    have a1:h.1[a8]?=some (rgO O):=by rw[l];exact(bLL c Oa).t a3
    have b4:h.1[j.1.size]?=some (stO P g1 Z):=by rw[l];exact Qk j _
    have a4:Below w.1.size w h:=by rw[l];exact(u.t (c.mono u.size)).alloc Oa _
    have k4:StW Z P g1 h:=by rw[l];exact s.below ((Below.refl _ _).alloc Ol _)
    have k1:h.1.size=j.1.size+1:=by rw[l];exact hsz _ _
    rw[<-l];have b8:j.1.size < h.1.size:=Oa
    have h5:w.1.size+1 < h.1.size:=Oa
    clear l c k1 X r6 a2 a3 a5 x y x0 x1 y0 y1 u T h8;generalize j.1.size=b5 at*;obtain⟨x,y,_⟩:=bKX b4;obtain⟨x0,x1,_⟩:=bL4 a1;obtain⟨u0,u1,uf⟩:=bLG N;go_wp2_with (go_at_call 176;refine(bU2 hN hZ G b P (_,_) ⟨bO5 _,by unfold I6;omega⟩ _ hb.1 (hw.below a4) k4).mono ?_;rintro e W6 ⟨d2,S,rfl,s,c⟩;obtain⟨hc,hf⟩:=bNB c)
    have b1:=a4.t (c.mono a4.size);have E:=s.ne ((c.block _ h5).t N);refine bodyPost_ret (v:=stA d2 S Z) (by simp[results,results175,go_sem,*]) rfl ⟨_,_,rfl,s.move ?_,?_⟩
    ·exact(Om E).t (Om E)
    ·exact(b1.setCell (by show w.1.size<=w.1.size+1;omega) _).setCell (by show w.1.size<=w.1.size+1;omega) _
   ·go_upto_region 8 with(go_at_call 233;refine(bPY false g Z _ T G).mono ?_;rintro e j ⟨S,rfl,b6,s,c⟩)
    have X:=c.size;have b7:=s.lt;have c7:w.1.size+1≠j.1.size:=Oa
    have c8:w.1.size+1 < j.1.size:=Oa
    obtain⟨u0,u1,uf⟩:=bLG ((c.block _ Oa).t a2);have a9:=u.t (c.mono u.size);clear r6 a2 a3 a5 x y x0 x1 y0 y1 T h8 k3 h9;go_wp2;have E:S≠w.1.size+1:=Oa
    refine bodyPost_ret (v:=stA true S Z) (by simp[results,results175,go_sem,*]) rfl ⟨_,_,rfl,s.dead.move ?_,?_⟩
    ·rw[hal,if_neg (by simp[World.setCell];omega)];exact(Om E).t (Om E)
    ·exact((a9.setCell (by show w.1.size<=w.1.size+1;omega) _).setCell (by show w.1.size<=w.1.size+1;omega) _).alloc (by simp[World.setCell];omega) _
end
section
variable {H U:Nat} {L C:List NQ} {A F:List Int} {ns Z g:Nat} {Y D M B:Value} {V:List V3} {K:Int->Prop}
structure ApW(Q g Z:Nat)(d:Bool)(x y:Int × Int)(w:World)(r:Int × Int)(w':World):Prop where
 p6:w'.1[w.1.size]?=some (stO d g Z)
 p8:w'.1[w.1.size+1]?=some (rgO x)
 p9:w'.1[w.1.size+1+1]?=some (rgO y)
 p10:w'.1[w.1.size+1+1+1]?=some noO
 p12:w'.1[Q]?=some (rgO r)
 below:Below w.1.size w w'
 lt:w.1.size+4<=Q
 lo:I6 r.1
 hi:I6 r.2
section
variable {Q:Nat} {d:Bool} {x y r:Int × Int} {w w':World} {a:Int}
theorem ApW.set0(h:ApW Q g Z d x y w r w')(f:I6 a):ApW Q g Z d x y w (a,r.2) (w'.setCell ⟨Q,0,none⟩ (Qc a)):=by
 have e:=h.lt;have c:∀ k,k≠Q->∀ o u,(w'.setCell ⟨Q,o,none⟩ u).1[k]?=w'.1[k]?:=(by grind[Below.heap_setCell]);exact⟨(c _ Oa _ _).t h.p6,(c _ Oa _ _).t h.p8,(c _ Oa _ _).t h.p9,(c _ Oa _ _).t h.p10,aM _ h.p12,h.below.setCell Qg _,e,f,h.hi⟩
theorem ApW.set1(h:ApW Q g Z d x y w r w')(f:I6 a):ApW Q g Z d x y w (r.1,a) (w'.setCell ⟨Q,1,none⟩ (Qc a)):=by
 have e:=h.lt;have c:∀ k,k≠Q->∀ o u,(w'.setCell ⟨Q,o,none⟩ u).1[k]?=w'.1[k]?:=(by grind[Below.heap_setCell]);exact⟨(c _ Oa _ _).t h.p6,(c _ Oa _ _).t h.p8,(c _ Oa _ _).t h.p9,(c _ Oa _ _).t h.p10,aM _ h.p12,h.below.setCell Qg _,e,h.lo,f⟩
end
theorem bW1(hN:Nok C L A F Z ns K)(hZ:L.length<=100000)(hv:Z<=100000)(k:Int)(d:Bool)(x y:Int × Int)(w:World)(hk:K k)(hw:FdW H U L A F ns Y D M B V w)(T:StW Z d g w):
 Calls prog 177 #[Qd U,stA d g Z,Qc k,rgA x,rgA y] w (bU5 Z w):=by
 obtain⟨a',ha,_⟩:=hN k hk;obtain⟨j,m⟩:∃ j,j=(((w.alloc (stO d g Z)).alloc (rgO x)).alloc (rgO y)).alloc noO:=⟨_,rfl⟩
 have l:Below w.1.size w j:=by
  rw[m]
  repeat (first|exact Below.refl _ _|refine Below.alloc ?_ (by first|(simp;done)|(simp;omega)) _)
 have kz:j.1.size=w.1.size+4:=by rw[m];simp only[hsz]
 have s:j.1[w.1.size]?=some (stO d g Z):=by
  rw[m]
  repeat (first|rw[hal,if_neg (by simp only[hsz];omega)]|rw[hal,if_pos (by simp only[])])
 have u:j.1[w.1.size+1]?=some (rgO x):=by
  rw[m]
  repeat (first|rw[hal,if_neg (by simp only[hsz];omega)]|rw[hal,if_pos (by simp only[hsz])])
 have z:j.1[w.1.size+1+1]?=some (rgO y):=by
  rw[m]
  repeat (first|rw[hal,if_neg (by simp only[hsz];omega)]|rw[hal,if_pos (by simp only[hsz])])
 have p:j.1[w.1.size+1+1+1]?=some noO:=by
  rw[m]
  repeat (first|rw[hal,if_neg (by simp only[hsz];omega)]|rw[hal,if_pos (by simp only[hsz])])
 have HW:Hid (j=_):=m;clear m;go_enter func177,ntmps177
 go_upto_region 1 with fail
 rw[<-HW.o];clear HW;have N:=hw.below l;have O:=T.below l;obtain⟨k,gr,a2,b1,c1,b2,c2,b3,c3,rfl,a5,rfl,h8,g0,e0,_⟩:=N.Q ha;have a3:0<=(k:Int)/\(k:Int) < (L.length:Int):=Oa
 obtain⟨s0,s1,_⟩:=bKX s;obtain⟨E,G,_⟩:=bL4 u;obtain⟨I,J,_⟩:=bL4 z;obtain⟨u0,u1,uf⟩:=bLG p;have HK:Hid (Below w.1.size w j):=l;clear h8;go_cut [32]from 13 to 64 (fun v q=>∃ t:Bool,v= .bool t/\j=q)
 case first=>
  obtain⟨t1,a8⟩:∃ t1,(y.1 !=y.2)=t1:=⟨_,rfl⟩;obtain⟨t2,a9⟩:∃ t2,(a'.d !=4)=t2:=⟨_,rfl⟩;clear T O N hw hN l s u z p;cases t1<;>cases t2<;>cases d
  all_goals
   go_wp2;go_meet;exact⟨_,rfl,rfl⟩
 case rest=>
  obtain⟨t,rfl,rfl⟩:=hcut;clear g0 e0;cases t
  case true=>
   go_wp2;exact bodyPost_ret (v:=stA d g Z) (by simp[results,results177,go_sem,*]) rfl ⟨_,_,rfl,T.below ((HK.o.setCell (by show w.1.size<=w.1.size+1+1+1;omega) _).setCell (by show w.1.size<=w.1.size+1+1+1;omega) _),(HK.o.setCell (by show w.1.size<=w.1.size+1+1+1;omega) _).setCell (by show w.1.size<=w.1.size+1+1+1;omega) _⟩
  go_upto_region 3 with fail
  go_cut [36]from 33 to 64 (fun v q=>∃ t:Bool,v= .bool t/\j=q)
  case first=>
   clear T O N hw hN l s u z p;go_wp2
   all_goals go_meet
   all_goals exact⟨_,rfl,rfl⟩
  case rest=>
   obtain⟨t,rfl,rfl⟩:=hcut;cases t
   case true=>
    go_upto_region 5 with(go_at_call 233;refine(bPY d g Z _ O hv).mono ?_;rintro e o ⟨X,rfl,a4,S,h⟩)
    have h7:=h.size;have a6:w.1.size+1+1+1≠o.1.size:=Oa
    have a7:w.1.size+1+1+1 < o.1.size:=Oa
    obtain⟨u0,u1,uf⟩:=bLG ((h.block _ Oa).t p);have a1:=l.t (h.mono l.size);clear s u z p s0 s1 E G I J O N;go_wp2;have P:X≠w.1.size+1+1+1:=Oa
    refine bodyPost_ret (v:=stA true X Z) (by simp[results,results177,go_sem,*]) rfl ⟨_,_,rfl,S.dead.move ?_,?_⟩
    ·rw[hal,if_neg (by have:=S.lt;simp[World.setCell];omega)];exact(Om P).t (Om P)
    ·exact((a1.setCell (by show w.1.size<=w.1.size+1+1+1;omega) _).setCell (by show w.1.size<=w.1.size+1+1+1;omega) _).alloc (by simp[World.setCell];omega) _
   go_upto_region 8 with(go_at_call 111;refine(bOH _).mono ?_;rintro e o ⟨rfl,h⟩)
   obtain⟨W,h6⟩:∃ W,W=o.alloc (rgO (-9223372036854775808,9223372036854775807)):=⟨_,rfl⟩;have h7:=h.size
   have c:ApW o.1.size g Z d x y w (-9223372036854775808,9223372036854775807) W:=by
    rw[h6];exact⟨(bLL h Oa).t s,(bLL h Oa).t u,(bLL h Oa).t z,(bLL h Oa).t p,Qk o _,(l.t (h.mono l.size)).alloc Oa _,Oa,by unfold I6;omega,by unfold I6;omega⟩
   rw[<-h6];clear h6 h h7 s u z p s0 s1 E G I J u0 u1 uf O N l HK;generalize o.1.size=Q at*;obtain⟨r,hr⟩:∃ r:Int × Int,r=(-9223372036854775808,9223372036854775807):=⟨_,rfl⟩;rw[<-hr]at c;clear hr;have f:Hid (ApW Q g Z d x y w r W):=c;obtain⟨E,G,_⟩:=bL4 c.p8;obtain⟨I,J,_⟩:=bL4 c.p9;obtain⟨r0,r1,rf⟩:=bL4 c.p12;clear c;obtain⟨bt,h5⟩:∃ bt,(x.1==y.1)=bt:=⟨_,rfl⟩;go_upto_if 46 with fail
   go_cut []from 42 to 64 (fun q=>∃ r,ApW Q g Z d x y w r q)
   case first=>
    cases bt
    ·go_wp2;go_meet;exact⟨_,f.o⟩
    ·go_wp2;go_meet;exact⟨_,f.o.set0 (bO5 _)⟩
   case rest=>
    clear E G I J r0 r1 rf f h5;obtain⟨r,c⟩:=hcut;have f:Hid (ApW Q g Z d x y w r wc):=c;obtain⟨E,G,_⟩:=bL4 c.p8;obtain⟨I,J,_⟩:=bL4 c.p9;obtain⟨r0,r1,rf⟩:=bL4 c.p12;clear c;generalize wc=W6 at*;obtain⟨bt,h5⟩:∃ bt,(x.2==y.1)=bt:=⟨_,rfl⟩;go_upto_if 55 with fail
    go_cut []from 42 to 64 (fun q=>∃ r,ApW Q g Z d x y w r q)
    case first=>
     cases bt
     ·go_wp2;go_meet;exact⟨_,f.o⟩
     ·go_wp2;go_meet;exact⟨_,f.o.set1 (bO5 _)⟩
    case rest=>
     clear E G I J r0 r1 rf f h5;obtain⟨r,c⟩:=hcut;obtain⟨s0,s1,_⟩:=bKX c.p6;obtain⟨r0,r1,_⟩:=bL4 c.p12;obtain⟨u0,u1,uf⟩:=bLG c.p10;have h4:w.1.size+1+1+1 < wc.1.size:=(Oo c.p10);have f:Hid (ApW Q g Z d x y w r wc):=c;clear c;go_wp2_with (go_at_call 176;refine(bU2 hN hZ hv k d (_,_) ⟨f.o.lo,f.o.hi⟩ _ hk (hw.below f.o.below) (T.below f.o.below)).mono ?_;rintro e W7 ⟨d2,X,rfl,S,h⟩;obtain⟨hc,hf⟩:=bNB h)
     have P:=S.ne ((h.block _ h4).t f.o.p10);refine bodyPost_ret (v:=stA d2 X Z) (by simp[results,results177,go_sem,*]) rfl ⟨_,_,rfl,S.move ?_,?_⟩
     ·exact(Om P).t (Om P)
     ·exact((f.o.below.t (h.mono f.o.below.size)).setCell (by show w.1.size<=w.1.size+1+1+1;omega) _).setCell (by show w.1.size<=w.1.size+1+1+1;omega) _
end
end Go.Proofs.YtikffmloeifkpaaGreatDoor
