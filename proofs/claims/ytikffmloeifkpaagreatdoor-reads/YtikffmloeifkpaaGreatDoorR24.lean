/- Contracts. -/
import Derived.Test.YtikffmloeifkpaaGreatDoorR18
import Derived.Test.YtikffmloeifkpaaGreatDoorR23
set_option maxHeartbeats 16000000
set_option maxRecDepth 100000
namespace Go.Proofs.YtikffmloeifkpaaGreatDoor
open Go.RowKit Go.Lib Go.Deep Go.ChangeMaps Go.MapKept Tryz
section
structure qQ(H U:Nat)(L:List NQ)(A F:List Int)(ns:Nat)(Y D M B:Value)(V:List V3)(w:World):Prop where
 prog:∃ vI m,w.1[U]?=some (Qf #[Y,vI,D,M,Qc m,B] 76)
 nodes:w.ownsRow H 73 11 Y L.length (mM L V)
 arrs:w.ownsRow H 3 1 D A.length (fQ A)
 fns:w.ownsRow H 3 1 M F.length (fQ F)
 d:∃ xs,w.ownsRow H 55 3 B ns xs
 c:kZ H w L V
structure Fd(B:Value)(w w':World):Prop where
 os:w'.os=w.os
 tape:w'.tape=w.tape
 output:w'.output=w.output
 size:w.1.size<=w'.1.size
 keep:∀ k,k < w.1.size->B.ownBlock≠some k->w'.1[k]?=w.1[k]?
section
variable {H U:Nat} {L:List NQ} {A F:List Int} {ns:Nat} {Y D M B:Value} {V:List V3} {w w' w2:World}
theorem Fd.refl(B:Value)(w:World):Fd B w w:=⟨rfl,rfl,rfl,Oa,Od⟩
theorem Fd.t(h:Fd B w w')(k:Fd B w' w2):Fd B w w2:=⟨k.os.t h.os,k.tape.t h.tape,k.output.t h.output,Qm h.size k.size,fun j a b=>(k.keep j (Nat.lt_of_lt_of_le a h.size) b).t (h.keep j a b)⟩
theorem Fd.of(h:Below w.1.size w w'):Fd B w w':=⟨h.os,h.tape,h.output,h.size,fun k a _=>h.block k a⟩
theorem qQ.below(h:qQ H U L A F ns Y D M B V w)(f:Below w.1.size w w'):qQ H U L A F ns Y D M B V w':=by
 obtain⟨p,m,j⟩:=h.prog;obtain⟨b,l⟩:=h.d;have lt:∀ {k:Nat} {o:Obj},w.1[k]?=some o->w'.1[k]?=some o:=fun e=>(f.block _ Qg).t e;have a:∀ {n d:Nat} {e:TypeId} {v:Value} {b:List Value},w.ownsRow H e d v n b->w'.ownsRow H e d v n b:=(by grind[aR,fC])
 exact⟨Qh,a h.nodes,a h.arrs,a h.fns,Qg,h.c.move (fun k g=>by
  obtain⟨⟨c,i⟩,_⟩:=h.c.typ g
  grind)⟩
theorem fG.fd{Z g:Nat}{d:Bool}(h:fG Z d g w)(f:qQ H U L A F ns Y D M B V w)(e:Fd B w w'):fG Z d g w':=by
 obtain⟨R,a,b,c⟩:=h;obtain⟨j,i⟩:=f.d;exact⟨R,a,(e.keep g Qg (by grind[cV])).t b,c⟩
theorem qQ.p0(h:qQ H U L A F ns Y D M B V w){y:Int}{a:NQ}(hi:jM L y a):∃ (k g J:Nat) (a1:Option Addr) (c1:Nat) (c:Option Addr) (c2:Nat) (d:Option Addr) (c3:Nat),y=(k:Int)/\k < L.length/\Y= Qe g L.length J/\uA H w a (.slice a1 a.c.length c1,.slice c a.g.length c2,.slice d a.e.length c3)/\w.cell? ⟨U,0,none⟩=some (Qe g L.length J)/\(w.cell? ⟨g,k*11,none⟩=some (Qc a.d)/\w.cell? ⟨g,k*11+1,none⟩=some (Qc a.at_)/\w.cell? ⟨g,k*11+2,none⟩=some (.string a.s)/\w.cell? ⟨g,k*11+3,none⟩=some (Qc a.n)/\w.cell? ⟨g,k*11+4,none⟩=some (Qc a.mid)/\w.cell? ⟨g,k*11+5,none⟩=some (.slice a1 a.c.length c1)/\w.cell? ⟨g,k*11+6,none⟩=some (.slice c a.g.length c2)/\w.cell? ⟨g,k*11+7,none⟩=some (.slice d a.e.length c3)/\w.cell? ⟨g,k*11+8,none⟩=some (Qc a.b)/\w.cell? ⟨g,k*11+9,none⟩=some (Qc a.ref)/\w.cell? ⟨g,k*11+10,none⟩=some (Qc a.f)):=by
 obtain⟨C,u,p⟩:=h.prog;obtain⟨k,rfl⟩:=Int.eq_ofNat_of_zero_le hi.1;have hi:L[k]?=some a:=by have:=hi.2;assumption
 obtain⟨⟨v,x,z⟩,r,e⟩:=h.c.get hi;have n:=(List.getElem?_eq_some_iff.1 hi).1;obtain⟨a1,c1,rfl,_⟩:=bP e.k;obtain⟨c,c2,f,_⟩:=bP e.p;obtain⟨d,c3,i,_⟩:=bP e.h;dsimp only at f i;subst f i;obtain⟨_,q⟩:=h.nodes;rcases q with⟨_,t⟩|⟨g,J,s,h0,_,o,_,_,_,m⟩
 ·omega
 have b:∀ j,j < 11->w.cell? ⟨g,k*11+j,none⟩=(NdV a (.slice a1 a.c.length c1,.slice c a.g.length c2,.slice d a.e.length c3))[j]?:=fun j b=>by
  have l:=aAM L V k a _ hi r j b;rw[<-m,List.getElem?_take,if_pos Oa]at l;rw[cell_of_row _ _ _ _ _ _ o,<-l];simp
 exact⟨k,g,J,a1,c1,c,c2,d,c3,rfl,n,h0,e,by rw[cell_of_row _ _ _ _ _ _ p,h0];rfl,b 0 Oa,b 1 Oa,b 2 Oa,b 3 Oa,b 4 Oa,b 5 Oa,b 6 Oa,b 7 Oa,b 8 Oa,b 9 Oa,b 10 Oa⟩
end
def Nok(L0 L:List NQ)(A F:List Int)(Z ns:Nat)(K:Int->Prop):Prop:=∀ i,K i->∃ n,jM L i n/\WfK L K i n/\OkR L0 A F Z n/\n.f < ns
section
variable {L:List NQ} {K:Int->Prop} {i:Int} {n:NQ}
theorem WfK.one(h:WfK L K i n)(a:n.d=5\/n.d=7\/n.d=12\/n.d=13\/n.d=17\/n.d=18):∃ y,n.c=[y]/\zQ L K i 0 y:=by
 rcases h with⟨h,_⟩|⟨h,_⟩|⟨h,_⟩|⟨_,h⟩|⟨h,_⟩|⟨h,_⟩|⟨h,_⟩
 case inr.inr.inr.inl=>exact h
 all_goals omega
theorem WfK.two(h:WfK L K i n)(a:n.d=8\/n.d=9\/n.d=14):∃ y z,n.c=[y,z]/\zQ L K i 0 y/\zQ L K i 0 z:=by
 rcases h with⟨h,_⟩|⟨h,_⟩|⟨h,_⟩|⟨h,_⟩|⟨_,h⟩|⟨h,_⟩|⟨h,_⟩
 case inr.inr.inr.inr.inl=>exact h
 all_goals omega
theorem WfK.both(h:WfK L K i n)(a:n.d=10\/n.d=11):∃ y z,n.c=[y,z]/\zQ L K i 1 y/\zQ L K i 1 z:=by
 rcases h with⟨h,_⟩|⟨h,_⟩|⟨h,_⟩|⟨h,_⟩|⟨h,_⟩|⟨_,h⟩|⟨h,_⟩
 case inr.inr.inr.inr.inr.inl=>exact h
 all_goals omega
theorem WfK.iff(h:WfK L K i n)(a:n.d=15\/n.d=16):∃ c b r,n.c=c::b::r/\zQ L K i 1 c/\zQ L K i 3 b/\(r=[]\/n.d=15/\∃ e,r=[e]/\zQ L K i 3 e):=by
 rcases h with⟨h,_⟩|⟨h,_⟩|⟨h,_⟩|⟨h,_⟩|⟨h,_⟩|⟨h,_⟩|⟨_,h⟩
 case inr.inr.inr.inr.inr.inr=>exact h
 all_goals omega
end
end
section
variable {H U:Nat} {L C:List NQ} {A F:List Int} {ns Z g:Nat} {Y D M B:Value} {V:List V3} {K:Int->Prop}
abbrev bAC(b:NQ)(a1:Option Addr)(k1:Nat)(a2:Option Addr)(k2:Nat)(a3:Option Addr)(k3:Nat):Obj:= Qf #[Qc b.d,Qc b.at_,.string b.s,Qc b.n,Qc b.mid,.slice a1 b.c.length k1,.slice a2 b.g.length k2,.slice a3 b.e.length k3,Qc b.b,Qc b.ref,Qc b.f] 73
theorem mR{W:World}{b b' o a:Nat}{u:Value}(h:b≠b'):(W.setCell ⟨b',o,none⟩ u).cell? ⟨b,a,none⟩=W.cell? ⟨b,a,none⟩:=by
 grind[World.cell?,Below.heap_setCell]
theorem pZ{w:World}{a:NQ}{d j k:Value}(h:uA H w a (d,j,k)){i:Nat}{y:Int}(f:a.c[i]?=some y):∃ b J,d= Qe b a.c.length J/\w.cell? ⟨b,i,none⟩=some (Qc y)/\b < w.1.size:=by
 obtain⟨b,J,e,c⟩:=dQ h.k f;exact⟨b,J,e,c,Qp w _ c⟩
theorem cK0{k:Int}(h:cK k=0):3<=k/\k<=8:=by
 grind[cK]
theorem aBY(hN:Nok C L A F Z ns K)(_:L.length<=100000)(_:Z<=100000):∀ (n:Nat) (y:Int) (w:World),y.toNat < n->K y->(∃ a,jM L y a/\cK a.d=0)->qQ H U L A F ns Y D M B V w->fG Z false g w->
 Calls prog 174 #[Qd U,oH false g Z,Qc y] w (aE4 w):=by
 intro n
 induction n with
 |zero=>intro y w h;omega
 |succ n ih=>
  intro y w hn hk hc hw hs;obtain⟨a,ha,k9,y0,_⟩:=hN y hk;obtain⟨f,z4,z3⟩:=hc;have e:f=a:=by have h1:=ha.2;have X:=z4.2;rw[h1]at X;exact(Oq X).symm
  subst e;obtain⟨a8,gr,c7,b1,c1,b2,c2,b3,c3,rfl,d4,rfl,P,g0,e0,e1,e2,e3,e4,e5,e6,e7,e8,e9,b9⟩:=hw.p0 ha;have c8:0<=(a8:Int)/\(a8:Int) < (L.length:Int):=Oa
  have y6:=Qp w _ g0;have y5:=Qp w _ e0;dsimp only at y6 y5;obtain⟨c,t⟩:∃ c,c=((w.alloc (Qf #[.bool false,Qe g Z Z] 230)).alloc (Qf #[Qc 0,Qc 0] 232)).alloc (rJ f b1 c1 b2 c2 b3 c3):=⟨_,rfl⟩
  have kb:Below w.1.size w c:=by
   rw[t]
   repeat (first|exact Below.refl _ _|refine Below.alloc ?_ (by first|(simp;done)|(simp;omega)) _)
  have kz:c.1.size=w.1.size+3:=by rw[t];simp only[cP]
  have a4:Below w.1.size w c:=kb
  have q0:c.1[w.1.size]?=some (Qf #[.bool false,Qe g Z Z] 230):=by
   rw[t]
   repeat (first|rw[iM,if_neg (by simp only[cP];omega)]|rw[iM,if_pos (by simp only[])])
  have E:c.1[w.1.size+1]?=some (Qf #[Qc 0,Qc 0] 232):=by
   rw[t]
   repeat (first|rw[iM,if_neg (by simp only[cP];omega)]|rw[iM,if_pos (by simp only[cP])])
  have u:c.1[w.1.size+1+1]?=some (bAC f b1 c1 b2 c2 b3 c3):=by
   rw[t]
   repeat (first|rw[iM,if_neg (by simp only[cP];omega)]|rw[iM,if_pos (by simp only[cP])])
  have HW:Hid (c=_):=t;go_enter func174,ntmps174
  go_upto_region 2 with fail
  rw[<-HW.o];have O:=hs.below a4;have k8:=hw.below a4;have k:Hid (Below w.1.size w c):=kb;have l0:c.cell? ⟨w.1.size+1+1,0,none⟩=some (Qc f.d):=Og u rfl
  have r0:c.cell? ⟨w.1.size+1,0,none⟩=some (Qc 0):=Og E rfl
  have r1:c.cell? ⟨w.1.size+1,1,none⟩=some (Qc 0):=Og E rfl
  have rf:∀ o,c.frozen? ⟨w.1.size+1,o,none⟩=false:=fun o=>by simp[World.frozen?,E]
  have s0:c.cell? ⟨w.1.size,0,none⟩=some (.bool false):=Og q0 rfl
  have s1:c.cell? ⟨w.1.size,1,none⟩=some (Qe g Z Z):=Og q0 rfl
  have Q:∀ (a5 y:Int),a5≠y->(a5==y)=false:=fun a5 y h=>by simp[h]
  have d3:=cK0 z3;clear g0 e0 e1 e2 e3 e4 e5 e6 e7 e8 e9 b9 kb a4 hw hs t HW y6 y5
  by_cases G:f.d=3
  ·have t3:(f.d==3)=true:=by simp[G]
   have l3:c.cell? ⟨w.1.size+1+1,3,none⟩=some (Qc f.n):=Og u rfl
   have d2:-999999999<=f.n/\f.n<=999999999:=by
    rcases k9 with⟨⟨_,h⟩|h,_⟩|⟨h,_⟩|⟨h,_⟩|⟨h,_⟩|⟨h,_⟩|⟨h,_⟩|⟨h,_⟩
    ·exact h
    all_goals omega
   go_wp2;exact bodyPost_ret (v:=vN (_,_)) (by simp[results,results174,go_sem, *];exact⟨rfl,rfl⟩) rfl ⟨_,rfl,(by unfold Rk;omega),(k.o.setCell Od _).setCell Od _⟩
  have t3:=Q _ _ G
  by_cases h4:f.d=4
  ·have t4:(f.d==4)=true:=by simp[h4]
   have l9:c.cell? ⟨w.1.size+1+1,9,none⟩=some (Qc f.ref):=Og u rfl
   obtain⟨o1,o2⟩:=y0.1 (.l h4);obtain⟨i,hi⟩:=Int.eq_ofNat_of_zero_le o1;obtain⟨r,c0,c5,m⟩:=O.get (i:=i) Oa;have c9:0<=(i:Int)/\(i:Int) < (Z:Int):=Oa
   rw[hi]at l9;have hR:=m rfl;clear m;go_wp2;exact bodyPost_ret (v:=vN r) (by simp[results,results174,go_sem, *]) rfl ⟨r,rfl,hR,(k.o.setCell Od _).setCell Od _⟩
  have t4:=Q _ _ h4
  by_cases h7:f.d=7
  ·have t7:(f.d==7)=true:=by simp[h7]
   obtain⟨y1,y4,i1,i2,J⟩:=k9.one (.r (.l h7));obtain⟨j,b8,N,z,S⟩:=pZ P (i:=0) (y:=y1) (by rw[y4];rfl);have R:f.c.length=1:=by rw[y4];rfl
   simp only[Value.slice.injEq]at N;obtain⟨rfl,-,rfl⟩:=N;have z:=(k.o.cell (p:=⟨j,0,none⟩) S).t z;have l5:c.cell? ⟨w.1.size+1+1,5,none⟩=some (Qe j 1 c1):=by rw[cell_of_row _ _ _ _ _ _ u,<-R];rfl
   have S:j < c.1.size:=Oa
   obtain⟨a7,rfl⟩:=Int.eq_ofNat_of_zero_le (by obtain⟨a9,h,_⟩:=J;exact h.1);clear R P y0;go_upto_region 8 with fail
   have h5:∀ W:World,Below c.1.size c W->Calls prog 174 #[Qd U,oH false g Z,Qc (a7:Int)] W (fun e w'=>∃ r,e= .returned (vN r)/\Rk r/\Below c.1.size c w'/\Below W.1.size W w'):=fun W d=>(ih (a7:Int) W Oa i1 J (k8.below d) (O.below d)).mono fun e w' ⟨r,h1,X,G⟩=>⟨r,h1,X,d.t (G.mono d.size),G⟩
   have s:∀ W:World,Below c.1.size c W->W.cell? ⟨w.1.size+1,0,none⟩=some (Qc 0)/\W.cell? ⟨w.1.size+1,1,none⟩=some (Qc 0)/\∀ o,W.frozen? ⟨w.1.size+1,o,none⟩=false:=fun W d=>by
    have h:=(d.block (w.1.size+1) Oa).t E;exact⟨Og h rfl,Og h rfl,fun o=>by simp[World.frozen?,h]⟩
   have a6:∀ W:World,Below (c.alloc (Qf #[Qc 0,Qc 0] 232)).drew.1.size (c.alloc (Qf #[Qc 0,Qc 0] 232)).drew W->W.cell? ⟨c.1.size,0,none⟩=some (Qc 0)/\W.cell? ⟨c.1.size,1,none⟩=some (Qc 0)/\(∀ o,W.frozen? ⟨c.1.size,o,none⟩=false)/\W.1[c.1.size]?=some (Qf #[Qc 0,Qc 0] 232):=fun W d=>by
    have h:W.1[c.1.size]?=some (Qf #[Qc 0,Qc 0] 232):=(d.block c.1.size (by show c.1.size < (c.alloc _).1.size;rw[cP];omega)).t (Qk c _);exact⟨Og h rfl,Og h rfl,fun o=>by simp[World.frozen?,h],h⟩
   have z0:w.1.size < c.1.size:=Oa
   have z1:w.1.size+1 < c.1.size:=Oa
   have z2:w.1.size+1+1 < c.1.size:=Oa
   clear kz;go_cut [8,15]from 35 to 72 (fun v8 _ w'=>∃ (b:Nat) (r:Int × Int),v8= Qd b/\Rk r/\w'.cell? ⟨b,0,none⟩=some (Qc r.1)/\w'.cell? ⟨b,1,none⟩=some (Qc r.2)/\Below c.1.size c w')
   case first=>
    go_region_with (go_at_call 174;refine(h5 _ (by repeat (first|exact Below.refl _ _|refine Below.drew ?_|refine Below.alloc ?_ Od _))).mono ?_;rintro e W ⟨⟨l,q⟩,rfl,m,h0,d⟩;obtain⟨R0,R1,RF⟩:=s W h0;try (have nn:=a6 W d;obtain⟨n0,n1,nf,nr⟩:=nn))
    all_goals have z5:=h0.size
    all_goals go_wp2
    all_goals go_meet
    all_goals first
     |(have nz:=aI (o:=1) (Qc q) (aI (o:=0) (Qc l) nr)
       exact⟨_,(l,q),rfl,m,Og nz rfl,Og nz rfl,(h0.setCell Ol _).setCell Ol _⟩)
     |exact⟨_,(l,q),rfl,m,Od,Od,h0.alloc z5 _⟩
   case rest=>
    obtain⟨b,⟨l,q⟩,rfl,m,n0,n1,h0⟩:=hcut;obtain⟨R0,R1,RF⟩:=s wc h0;clear h5 s a6;unfold Rk at m;dsimp only at m n0 n1
    by_cases hm:l= -9223372036854775808
    ·have tm:(l==-9223372036854775808)=true:=by simp[hm]
     have zz:w.1.size+1 < wc.1.size:=Nat.lt_of_lt_of_le z1 h0.size;go_wp2_with (go_at_call 111;refine(tY _).mono ?_;rintro e W ⟨rfl,d⟩;obtain⟨hc,hf⟩:=oO d)
     exact bodyPost_ret (v:=vN (-9223372036854775808,9223372036854775807)) (by simp[results,results174,go_sem, *]) rfl ⟨_,rfl,(by unfold Rk;omega),(((k.o.t (h0.mono k.o.size)).t (d.mono (Qm k.o.size h0.size))).setCell Od _).setCell Od _⟩
    ·have tm:=Q _ _ hm;have w1:IntKind.i64.wrap (-l)= -l:=IntWalk.i64_in _ Oa;have w2:IntKind.i64.wrap (-q)= -q:=IntWalk.i64_in _ Oa;go_wp2;exact bodyPost_ret (v:=vN (-q,-l)) (by simp[results,results174,go_sem, *]) rfl ⟨_,rfl,(by unfold Rk;dsimp only;omega),((k.o.t (h0.mono k.o.size)).setCell Od _).setCell Od _⟩
  have t7:=Q _ _ h7
  by_cases h8:f.d=8
  ·have t8:(f.d==8)=true:=by simp[h8]
   obtain⟨y1,y2,hy,⟨i1,i2,J⟩,j1,j2,j3⟩:=k9.two (.l h8);obtain⟨j,b8,N,z,S⟩:=pZ P (i:=0) (y:=y1) (by rw[hy];rfl);obtain⟨g7,c6,k0,y3,y9⟩:=pZ P (i:=1) (y:=y2) (by rw[hy];rfl);have R:f.c.length=2:=by rw[hy];rfl
   simp only[Value.slice.injEq]at N k0;obtain⟨rfl,-,rfl⟩:=N;obtain⟨k0,-,rfl⟩:=k0;simp only[Option.some.injEq,Addr.mk.injEq]at k0;obtain⟨rfl,-⟩:=k0;have z:=(k.o.cell (p:=⟨j,0,none⟩) S).t z;have y3:=(k.o.cell (p:=⟨j,1,none⟩) S).t y3;have l2:c.cell? ⟨w.1.size+1+1,2,none⟩=some (.string f.s):=Og u rfl
   have l5:c.cell? ⟨w.1.size+1+1,5,none⟩=some (Qe j 2 c1):=by rw[cell_of_row _ _ _ _ _ _ u,<-R];rfl
   obtain⟨x,rfl⟩:=Int.eq_ofNat_of_zero_le (by obtain⟨a9,h,_⟩:=J;exact h.1);obtain⟨v,rfl⟩:=Int.eq_ofNat_of_zero_le (by obtain⟨a9,h,_⟩:=j3;exact h.1);have k6:j < c.1.size:=Oa
   clear R P y0 y9;go_upto_region 13 with fail
   have b6:∀ W:World,Below c.1.size c W->Calls prog 174 #[Qd U,oH false g Z,Qc (x:Int)] W (aE4 W):=fun W d=>ih (x:Int) W Oa i1 J (k8.below d) (O.below d);have b7:∀ W:World,Below c.1.size c W->Calls prog 174 #[Qd U,oH false g Z,Qc (v:Int)] W (aE4 W):=fun W d=>ih (v:Int) W Oa j1 j3 (k8.below d) (O.below d)
   have s:∀ W:World,Below c.1.size c W->(W.cell? ⟨w.1.size+1+1,2,none⟩=some (.string f.s)/\W.cell? ⟨w.1.size+1+1,5,none⟩=some (Qe j 2 c1)/\W.cell? ⟨j,0,none⟩=some (Qc (x:Int))/\W.cell? ⟨j,1,none⟩=some (Qc (v:Int))/\W.cell? ⟨w.1.size,0,none⟩=some (.bool false)/\W.cell? ⟨w.1.size,1,none⟩=some (Qe g Z Z))/\W.cell? ⟨w.1.size+1,0,none⟩=some (Qc 0)/\W.cell? ⟨w.1.size+1,1,none⟩=some (Qc 0)/\∀ o,W.frozen? ⟨w.1.size+1,o,none⟩=false:=fun W d=>by
    have h:=(d.block (w.1.size+1) Oa).t E;exact⟨⟨(d.cell (by show w.1.size+1+1 < _;omega)).t l2,(d.cell (by show w.1.size+1+1 < _;omega)).t l5,(d.cell k6).t z,(d.cell k6).t y3,(d.cell (by show w.1.size < _;omega)).t s0,(d.cell (by show w.1.size < _;omega)).t s1⟩,Og h rfl,Og h rfl,fun o=>by simp[World.frozen?,h]⟩
   have I:∀ b,b≠w.1.size+1->∀ o x v (W:World),((W.setCell ⟨w.1.size+1,0,none⟩ x).setCell ⟨w.1.size+1,1,none⟩ v).cell? ⟨b,o,none⟩=W.cell? ⟨b,o,none⟩:=fun b h o x v W=>(mR h).t (mR h);have z8:w.1.size+1+1≠w.1.size+1:=Oa
   have z9:j≠w.1.size+1:=Oa
   have z7:w.1.size≠w.1.size+1:=Oa
   clear ih O k8 kz q0 E u
   go_region_held3 (fun w'=>w'.cell? ⟨w.1.size+1+1,2,none⟩=some (.string f.s)/\w'.cell? ⟨w.1.size+1+1,5,none⟩=some (Qe j 2 c1)/\w'.cell? ⟨j,0,none⟩=some (Qc (x:Int))/\w'.cell? ⟨j,1,none⟩=some (Qc (v:Int))/\w'.cell? ⟨w.1.size,0,none⟩=some (.bool false)/\w'.cell? ⟨w.1.size,1,none⟩=some (Qe g Z Z))
    (first
      |exact b4.o
      |exact S2.o
      |exact S3.o
      |(refine⟨?_,?_,?_,?_,?_,?_⟩<;>assumption)
      |exact(let⟨p1,p2,p3,p4,p5,p6⟩:=S3.o;⟨(I _ z8 _ _ _ _).t p1,(I _ z8 _ _ _ _).t p2,(I _ z9 _ _ _ _).t p3,(I _ z9 _ _ _ _).t p4,(I _ z7 _ _ _ _).t p5,(I _ z7 _ _ _ _).t p6⟩)
      |go_keep)
    (first
      |(go_at_call 232;refine(aHI _ ra b5 _ y8 y7).mono ?_;rintro e Wd ⟨⟨l,q⟩,rfl,m,Bd⟩;have a3:Below c.1.size c Wd:=a2.t (Bd.mono a2.size);have S3:Hid _:=(s Wd a3).1;obtain⟨R0,R1,RF⟩:=(s Wd a3).2)
      |(go_at_call 174;refine(b7 _ T).mono ?_;rintro e Wb ⟨b5,rfl,y7,Bb⟩;have a2:Below c.1.size c Wb:=T.t (Bb.mono T.size);have S2:Hid _:=(s Wb a2).1)
      |(go_at_call 174;refine(b6 _ ((Below.refl _ _).drew)).mono ?_;rintro e Wa ⟨ra,rfl,y8,Ba⟩;have T:Below c.1.size c Wa:=((Below.refl _ _).drew).t Ba;have b4:Hid _:=(s Wa T).1))
   go_wp2;exact bodyPost_ret (v:=vN (l,q)) (by simp[results,results174,go_sem, *]) rfl ⟨_,rfl,m,((k.o.t (a3.mono k.o.size)).setCell (by show w.1.size<=w.1.size+1;omega) _).setCell (by show w.1.size<=w.1.size+1;omega) _⟩
  have t8:=Q _ _ h8;go_wp2_with (go_at_call 111;refine(tY _).mono ?_;rintro e W ⟨rfl,d⟩;obtain⟨hc,hf⟩:=oO d)
  exact bodyPost_ret (v:=vN (_,_)) (by simp[results,results174,go_sem, *];exact⟨rfl,rfl⟩) rfl ⟨_,rfl,(by unfold Rk;omega),((k.o.t (d.mono k.o.size)).setCell Od _).setCell Od _⟩
end
section
variable {H U:Nat} {L C:List NQ} {A F:List Int} {ns Z g:Nat} {Y D M B:Value} {V:List V3} {K:Int->Prop}
def aJR(Z:Nat)(w:World):Ending->World->Prop:=fun e w'=>∃ d g,e= .returned (oH d g Z)/\fG Z d g w'/\Below w.1.size w w'
theorem aIE:∀ (R:List (Int × Int)) (i:Nat) (r:Int × Int) (a:Int),R[i]?=some r->(qZ R).set (i*2) (Qc a)=qZ (R.set i (a,r.2))
 |r0::R,0,r,a,h=>by
  simp only[List.getElem?_cons_zero,Option.some.injEq]at h;subst h;rfl
 |r0::R,i+1,r,a,h=>by
  have e1:(i+1)*2=i*2+1+1:=Oa
  rw[e1,List.set_cons_succ,qZ,qZ,List.set_cons_succ,List.set_cons_succ,aIE R i r a (by simpa using h)]
 |[],_,_,_,h=>by simp at h
theorem aID:∀ (R:List (Int × Int)) (i:Nat) (r:Int × Int) (a:Int),R[i]?=some r->(qZ R).set (i*2+1) (Qc a)=qZ (R.set i (r.1,a))
 |r0::R,0,r,a,h=>by
  simp only[List.getElem?_cons_zero,Option.some.injEq]at h;subst h;rfl
 |r0::R,i+1,r,a,h=>by
  have e1:(i+1)*2+1=i*2+1+1+1:=Oa
  rw[e1,List.set_cons_succ,qZ,qZ,List.set_cons_succ,List.set_cons_succ,aID R i r a (by simpa using h)]
 |[],_,_,_,h=>by simp at h
def vC(g:Nat)(R:List (Int × Int))(w:World):Prop:=w.1[g]?=some (.cells (qZ R).toArray 232 (0,0))
section
variable {R:List (Int × Int)} {i:Nat} {r:Int × Int} {w:World}
theorem vC.set0(h:vC g R w)(b:R[i]?=some r)(a:Int):vC g (R.set i (a,r.2)) (w.setCell ⟨g,i*2,none⟩ (Qc a)):=by
 rw[vC,aI _ h,<-aIE R i r a b];simp
theorem vC.set1(h:vC g R w)(b:R[i]?=some r)(a:Int):vC g (R.set i (r.1,a)) (w.setCell ⟨g,i*2+1,none⟩ (Qc a)):=by
 rw[vC,aI _ h,<-aID R i r a b];simp
theorem vC.get(h:vC g R w)(a:R[i]?=some r):w.cell? ⟨g,i*2,none⟩=some (Qc r.1)/\w.cell? ⟨g,i*2+1,none⟩=some (Qc r.2)/\∀ o,w.frozen? ⟨g,o,none⟩=false:=by
 obtain⟨b,c⟩:=aC4 R i r a
 exact⟨by rw[cell_of_row _ _ _ _ _ _ h];simp[*],by rw[cell_of_row _ _ _ _ _ _ h];simp[*],fun o=>by
  have h:w.1[g]?=some (.cells (qZ R).toArray 232 (0,0)):=h;simp[World.frozen?,h]⟩
theorem vC.st(h:vC g R w)(b:R.length=Z){d:Bool}(a:d=false->∀ r∈R,Rk r):fG Z d g w:=⟨R,b,h,a⟩
theorem vC.lt(h:vC g R w):g < w.1.size:=(Oo h)
theorem aRT(a:∀ r∈R,Rk r)(h:Rk r):∀ x∈R.set i r,Rk x:=Qg
end
abbrev jJ(b:NQ)(a1:Option Addr)(k1:Nat)(a2:Option Addr)(k2:Nat)(a3:Option Addr)(k3:Nat):Obj:= Qf #[Qc b.d,Qc b.at_,.string b.s,Qc b.n,Qc b.mid,.slice a1 b.c.length k1,.slice a2 b.g.length k2,.slice a3 b.e.length k3,Qc b.b,Qc b.ref,Qc b.f] 73
def Oth(i:Nat)(R:List (Int × Int)):Prop:=∀ j q,R[j]?=some q->j≠i->Rk q
theorem Oth.set{i:Nat}{R:List (Int × Int)}(h:Oth i R)(z:Int × Int):Oth i (R.set i z):=fun j q b a=>h j q Qg a
theorem Oth.all{i:Nat}{R:List (Int × Int)}{r:Int × Int}(h:Oth i R)(d:R[i]?=some r)(c:Rk r):∀ q∈R,Rk q:=fun q b=>by
 obtain⟨j,a⟩:=List.mem_iff_getElem?.1 b
 by_cases e:j=i
 ·grind
 ·exact h j q a e
structure CuW(I g2 Z i:Nat)(x:Int × Int)(o:Obj)(w:World)(R:List (Int × Int))(r:Int × Int)(w':World):Prop where
 p10:w'.1[I]?=some (Qf #[.bool false,Qe g2 Z Z] 230)
 p7:w'.1[w.1.size+1]?=some (Qf #[Qc x.1,Qc x.2] 232)
 p8:w'.1[w.1.size+1+1]?=some (Qf #[.bool false,.slice none 0 0] 230)
 p9:w'.1[w.1.size+1+1+1]?=some o
 row:vC g2 R w'
 below:Below w.1.size w w'
 lt:w.1.size+4<=g2
 ne:g2 < I
 len:R.length=Z
 get:R[i]?=some r
 lo:I6 r.1
 hi:I6 r.2
 oth:Oth i R
theorem CuW.dr{I a Z i:Nat}{x r:Int × Int}{o:Obj}{w w':World}{R:List (Int × Int)}(h:CuW I a Z i x o w R r w')(n:Nat):CuW I a Z i x o w R r (w'.drewN n):=⟨h.p10,h.p7,h.p8,h.p9,h.row,iJ h.below n,h.lt,h.ne,h.len,h.get,h.lo,h.hi,h.oth⟩
theorem CuW.set0{I b Z i:Nat}{x r:Int × Int}{o:Obj}{w w':World}{R:List (Int × Int)}(h:CuW I b Z i x o w R r w'){a:Int}(e:I6 a):CuW I b Z i x o w (R.set i (a,r.2)) (a,r.2) (w'.setCell ⟨b,i*2,none⟩ (Qc a)):=by
 have h0:=h.ne;have d:=h.lt;have c:∀ k,k≠b->∀ o u,(w'.setCell ⟨b,o,none⟩ u).1[k]?=w'.1[k]?:=(by grind[Below.heap_setCell]);have hi:=(List.getElem?_eq_some_iff.1 h.get).1;exact⟨(c _ Oa _ _).t h.p10,(c _ Oa _ _).t h.p7,(c _ Oa _ _).t h.p8,(c _ Oa _ _).t h.p9,h.row.set0 h.get a,h.below.setCell Qg _,d,h0,by rw[List.length_set];exact h.len,Qh,e,h.hi,h.oth.set _⟩
theorem CuW.set1{I b Z i:Nat}{x r:Int × Int}{o:Obj}{w w':World}{R:List (Int × Int)}(h:CuW I b Z i x o w R r w'){a:Int}(e:I6 a):CuW I b Z i x o w (R.set i (r.1,a)) (r.1,a) (w'.setCell ⟨b,i*2+1,none⟩ (Qc a)):=by
 have h0:=h.ne;have d:=h.lt;have c:∀ k,k≠b->∀ o u,(w'.setCell ⟨b,o,none⟩ u).1[k]?=w'.1[k]?:=(by grind[Below.heap_setCell]);have hi:=(List.getElem?_eq_some_iff.1 h.get).1;exact⟨(c _ Oa _ _).t h.p10,(c _ Oa _ _).t h.p7,(c _ Oa _ _).t h.p8,(c _ Oa _ _).t h.p9,h.row.set1 h.get a,h.below.setCell Qg _,d,h0,by rw[List.length_set];exact h.len,Qh,h.lo,e,h.oth.set _⟩
theorem CuW.cells{I a Z i:Nat}{x r:Int × Int}{a':NQ}{b1 b c:Option Addr}{c1 c2 c3:Nat}{w w':World}{R:List (Int × Int)}(h:CuW I a Z i x (jJ a' b1 c1 b c2 c c3) w R r w')(hi:a'.ref=i):
 (w'.cell? ⟨w.1.size+1,0,none⟩=some (Qc x.1)/\w'.cell? ⟨w.1.size+1,1,none⟩=some (Qc x.2))/\(w'.cell? ⟨I,0,none⟩=some (.bool false)/\w'.cell? ⟨I,1,none⟩=some (Qe a Z Z)/\∀ o,w'.frozen? ⟨I,o,none⟩=false)
   /\w'.cell? ⟨w.1.size+1+1+1,9,none⟩=some (Qc (i:Int))/\(w'.cell? ⟨a,i*2,none⟩=some (Qc r.1)/\w'.cell? ⟨a,i*2+1,none⟩=some (Qc r.2)/\∀ o,w'.frozen? ⟨a,o,none⟩=false)
   /\(w'.cell? ⟨w.1.size+1+1,0,none⟩=some (.bool false)/\w'.cell? ⟨w.1.size+1+1,1,none⟩=some (.slice none 0 0)/\∀ o,w'.frozen? ⟨w.1.size+1+1,o,none⟩=false):=
 ⟨⟨Og h.p7 rfl,Og h.p7 rfl⟩,⟨Og h.p10 rfl,Og h.p10 rfl,fun o=>by simp[World.frozen?,h.p10]⟩,by rw[cell_of_row _ _ _ _ _ _ h.p9,<-hi];rfl,h.row.get h.get,⟨Og h.p8 rfl,Og h.p8 rfl,fun o=>by simp[World.frozen?,h.p8]⟩⟩
theorem aJF(hN:Nok C L A F Z ns K)(_:L.length<=100000)(hv:Z<=100000)(y:Int)(d:Bool)(x:Int × Int)(hx:I6 x.1/\I6 x.2)(w:World)(hk:K y)(hw:qQ H U L A F ns Y D M B V w)(E:fG Z d g w):
 Calls prog 176 #[Qd U,oH d g Z,Qc y,vN x] w (aJR Z w):=by
 obtain⟨h,ha,b3,y1,_⟩:=hN y hk;obtain⟨k,gr,a5,b1,c1,j,c2,l,c3,rfl,a8,rfl,y2,g0,e0,e1,e2,e3,e4,e5,e6,e7,e8,e9,a3⟩:=hw.p0 ha;have a6:0<=(k:Int)/\(k:Int) < (L.length:Int):=Oa
 have k7:=Qp w _ g0;have k6:=Qp w _ e0;dsimp only at k7 k6;have k2:U < w.1.size+1:=Oa
 have k1:U < w.1.size+1+1:=Oa
 have k0:gr < w.1.size+1:=Oa
 have h9:gr < w.1.size+1+1:=Oa
 obtain⟨b,k9,kb,kz,q0,q1,t,q3⟩:=al4 w (Qf #[.bool d,Qe g Z Z] 230) (Qf #[Qc x.1,Qc x.2] 232) (Qf #[.bool false,.slice none 0 0] 230) (rJ h b1 c1 j c2 l c3);have HW:Hid (b=_):=k9;go_enter func176,ntmps176
 go_upto_region 2 with fail
 rw[<-HW.o];have h7:=E.below kb;have u:Hid (Below w.1.size w b):=kb;have s0:b.cell? ⟨w.1.size,0,none⟩=some (.bool d):=Og q0 rfl
 have s1:b.cell? ⟨w.1.size,1,none⟩=some (Qe g Z Z):=Og q0 rfl
 have l0:b.cell? ⟨w.1.size+1+1+1,0,none⟩=some (Qc h.d):=Og q3 rfl
 have u0:b.cell? ⟨w.1.size+1+1,0,none⟩=some (.bool false):=Og t rfl
 have u1:b.cell? ⟨w.1.size+1+1,1,none⟩=some (.slice none 0 0):=Og t rfl
 have p:∀ o,b.frozen? ⟨w.1.size+1+1,o,none⟩=false:=fun o=>by simp[World.frozen?,t]
 clear g0 e0 e1 e2 e3 e4 e5 e6 e7 e8 e9 a3 kb hw k9 HW k7 k6 k2 k1 k0 h9 y2;have s:∀ a2 v:Value,Below w.1.size w ((b.setCell ⟨w.1.size+1+1,0,none⟩ a2).setCell ⟨w.1.size+1+1,1,none⟩ v):=fun a2 v=>(u.o.setCell (by show w.1.size<=w.1.size+1+1;omega) _).setCell (by show w.1.size<=w.1.size+1+1;omega) _;cases d
 case true=>
  go_wp2;exact bodyPost_ret (v:=oH true g Z) (by simp[results,results176,go_sem, *]) rfl ⟨_,_,rfl,E.below (s _ _),s _ _⟩
 by_cases X:h.d=4
 ·have t4:(h.d !=4)=false:=by simp[X]
  obtain⟨o1,o2⟩:=y1.1 (.l X);obtain⟨i,hi⟩:=Int.eq_ofNat_of_zero_le o1;have a7:0<=(i:Int)/\(i:Int) < (Z:Int):=Oa
  clear E;go_upto_region 4 with fail
  go_wp2_with (go_at_call 233;refine(aA3 false g Z _ (by first|exact h7|exact h7.below (by repeat (first|exact Below.refl _ _|refine Below.drew ?_|refine Below.alloc ?_ Od _))) hv).mono ?_;rintro e W ⟨c,rfl,k3,hS,z⟩)
  obtain⟨R,y0,h5,k5⟩:=hS;obtain⟨r,hr⟩:∃ r,R[i]?=some r:=⟨R[i]'Oa,List.getElem?_eq_getElem _⟩;have h8:Rk r:=k5 rfl r (Qr hr);have k4:=z.size;have k4:b.1.size<=W.1.size:=k4;have k3:b.1.size<=c:=k3;have k8:=vC.lt h5;obtain⟨q,m⟩:∃ q,q=W.alloc (Qf #[.bool false,Qe c Z Z] 230):=⟨_,rfl⟩
  have J:∀ k,k < b.1.size->q.1[k]?=b.1[k]?:=fun k hk=>by
   rw[m,iM,Oh];exact z.block k hk
  have f:CuW W.1.size c Z i x (jJ h b1 c1 j c2 l c3) w R r q:=⟨by rw[m];exact Qk W _,(J _ Oa).t q1,(J _ Oa).t t,(J _ Oa).t q3,by
   rw[vC,m,iM,Oh];exact h5,by
   rw[m];exact(u.o.t (Below.mono z u.o.size)).alloc (Oi u.o.size) _,Oa,k8,y0,hr,by have:=h8;unfold Rk at this;unfold I6;omega,by have:=h8;unfold Rk at this;unfold I6;omega,fun b4 a4 hq _=>k5 rfl a4 (Qr hq)⟩
  rw[<-m];clear m J h5 k5 h8 hr y0 k3 k4 z q0 q1 t q3 s0 s1 l0 u0 u1 p h7 kz k8 s;generalize W.1.size=I at*;have y3:=f;obtain⟨⟨m0,G⟩,⟨n0,N,P⟩,O,⟨r0,Q,S⟩,u0,u1,p⟩:=f.cells hi;have a:Hid (CuW I c Z i x (jJ h b1 c1 j c2 l c3) w R r q):=f;clear f y3;obtain⟨bt,h0⟩:∃ bt,Hid (bt=decide (r.1 < x.1)):=⟨_,rfl⟩;have T:decide (x.1 > r.1)=bt:=h0.o.symm;go_quiet (fail)
  go_upto_if 37 with fail
  go_cut []from 28 to 80 (fun w'=>∃ R r,CuW I c Z i x (jJ h b1 c1 j c2 l c3) w R r w')
  case first=>
   cases bt
   ·go_wp2;go_meet;exact⟨_,_,a.o.dr _⟩
   ·go_wp2;go_meet;exact⟨_,_,(a.o.dr _).set0 hx.1⟩
  case rest=>
   clear m0 G n0 N P O r0 Q S u0 u1 p a h0 T;obtain⟨R,r,f⟩:=hcut;obtain⟨⟨m0,G⟩,⟨n0,N,P⟩,O,⟨r0,Q,S⟩,u0,u1,p⟩:=f.cells hi;have a:Hid (CuW I c Z i x (jJ h b1 c1 j c2 l c3) w R r wc):=f;clear f;generalize wc=W3 at*;obtain⟨bt,h0⟩:∃ bt,Hid (bt=decide (x.2 < r.2)):=⟨_,rfl⟩;have T:decide (x.2 < r.2)=bt:=h0.o.symm;go_upto_region 7 with fail
   go_quiet (fail)
   go_upto_if 55 with fail
   go_cut []from 28 to 80 (fun w'=>∃ R r,CuW I c Z i x (jJ h b1 c1 j c2 l c3) w R r w')
   case first=>
    cases bt
    ·go_wp2;go_meet;exact⟨_,_,a.o.dr _⟩
    ·go_wp2;go_meet;exact⟨_,_,(a.o.dr _).set1 hx.2⟩
   case rest=>
    clear m0 G n0 N P O r0 Q S u0 u1 p a h0 T;obtain⟨R,r,f⟩:=hcut;obtain⟨⟨m0,G⟩,⟨n0,N,P⟩,O,⟨r0,Q,S⟩,u0,u1,p⟩:=f.cells hi;have a:Hid (CuW I c Z i x (jJ h b1 c1 j c2 l c3) w R r wc):=f;clear f;generalize wc=W4 at*;obtain⟨bt,h0⟩:∃ bt,Hid (bt=decide (r.2 < r.1)):=⟨_,rfl⟩;have T:decide (r.1 > r.2)=bt:=h0.o.symm;have b2:=a.o.ne;have a9:=a.o.lt;have x1:w.1.size+1+1≠I:=Oa
    have x2:I≠w.1.size+1+1:=Oa
    go_upto_region 9 with fail
    go_region
    all_goals go_wp2
    refine bodyPost_ret (v:=oH bt c Z) (by simp[results,results176,go_sem, *]) rfl ⟨_,_,rfl,vC.st (R:=R) ?_ a.o.len ?_,?_⟩
    ·exact(Om (by show c≠w.1.size+1+1;omega)).t ((Om (by show c≠w.1.size+1+1;omega)).t ((Om (by show c≠I;omega)).t a.o.row))
    ·intro e;refine a.o.oth.all a.o.get ?_;have h1:=a.o.lo;have h2:=a.o.hi;have h3: ¬r.2 < r.1:=of_decide_eq_false (h0.o.symm.t e);unfold I6 at h1 h2;unfold Rk;omega
    ·exact((((a.o.below.setCell (by show w.1.size<=I;omega) _).setCell (by show w.1.size<=w.1.size+1+1;omega) _).setCell (by show w.1.size<=w.1.size+1+1;omega) _).drew)
 ·have t4:(h.d !=4)=true:=by simp[X]
  go_wp2;exact bodyPost_ret (v:=oH false g Z) (by simp[results,results176,go_sem, *]) rfl ⟨_,_,rfl,E.below (s _ _),s _ _⟩
end
section
variable {H U:Nat} {L C:List NQ} {A F:List Int} {ns Z g:Nat} {Y D M B:Value} {V:List V3} {K:Int->Prop}
theorem fG.dead{Z g:Nat}{d:Bool}{w:World}(h:fG Z d g w):fG Z true g w:=by
 obtain⟨R,a,b,_⟩:=h;exact⟨R,a,b,fun e=>by cases e⟩
theorem fG.ne{Z g b:Nat}{d:Bool}{w:World}{cs:Array Value}(h:fG Z d g w)(c:w.1[b]?=some (.cells cs 230 (0,0))):g≠b:=by
 rintro rfl;obtain⟨R,_,a,_⟩:=h
 grind
abbrev kE(d:Bool)(g Z:Nat):Obj:= Qf #[.bool d,Qe g Z Z] 230
abbrev vM(r:Int × Int):Obj:= Qf #[Qc r.1,Qc r.2] 232
abbrev pY:Obj:= Qf #[.bool false,.slice none 0 0] 230
section
variable {w:World} {b:Nat} {d:Bool} {r:Int × Int}
theorem aQ(h:w.1[b]?=some (kE d g Z)):w.cell? ⟨b,0,none⟩=some (.bool d)/\w.cell? ⟨b,1,none⟩=some (Qe g Z Z)/\∀ o,w.frozen? ⟨b,o,none⟩=false:=
 ⟨Og h rfl,Og h rfl,(by grind[World.frozen?])⟩
theorem cU(h:w.1[b]?=some (vM r)):w.cell? ⟨b,0,none⟩=some (Qc r.1)/\w.cell? ⟨b,1,none⟩=some (Qc r.2)/\∀ o,w.frozen? ⟨b,o,none⟩=false:=
 ⟨Og h rfl,Og h rfl,(by grind[World.frozen?])⟩
theorem dU(h:w.1[b]?=some pY):w.cell? ⟨b,0,none⟩=some (.bool false)/\w.cell? ⟨b,1,none⟩=some (.slice none 0 0)/\∀ o,w.frozen? ⟨b,o,none⟩=false:=
 ⟨Og h rfl,Og h rfl,(by grind[World.frozen?])⟩
theorem eP{w W:World}{k:Nat}{o:Obj}(a:Below w.1.size w W)(c:k < w.1.size):(W.alloc o).1[k]?=w.1[k]?:=by
 rw[iM,if_neg (Oi a.size)];exact a.block k c
end
def ExK(L:List NQ)(K:Int->Prop)(y:Int):Prop:=K y/\∃ a,jM L y a/\cK a.d=0
theorem aCE(O:Nok C L A F Z ns K)(P:L.length<=100000)(x:Z<=100000)(a b:Int)(or:Bool)(w:World)(ha:ExK L K a)(hb:ExK L K b)(Q:qQ H U L A F ns Y D M B V w)(hs:fG Z false g w):
 Calls prog 175 #[Qd U,oH false g Z,Qc a,Qc b,.bool or] w (aJR Z w):=by
 obtain⟨W1,k0,y,kz,q6,a5⟩:=al2 w (kE false g Z) pY;have HW:Hid (W1=_):=k0;clear k0;go_enter func175,ntmps175
 go_upto_region 1 with fail
 rw[<-HW.o];have k2:w.1.size < W1.1.size:=Oa
 obtain⟨s0,s,_⟩:=aQ q6;clear HW;go_upto_region 2 with(go_at_call 174;refine(aBY O P x _ a _ (Nat.lt_succ_self _) ha.1 ha.2 (Q.below y) (hs.below y)).mono ?_;rintro e W ⟨G,rfl,hx,c⟩)
 obtain⟨m,o⟩:∃ m,m=W.alloc (vM G):=⟨_,rfl⟩;have N:=c.size;have p6:m.1[w.1.size]?=some (kE false g Z):=by rw[o];exact(eP c Oa).t q6
 have E:m.1[w.1.size+1]?=some pY:=by rw[o];exact(eP c Oa).t a5
 have S:m.1[W.1.size]?=some (vM G):=by rw[o];exact Qk W _
 have z:Below w.1.size w m:=by rw[o];exact(y.t (c.mono y.size)).alloc Oa _
 have a9:m.1.size=W.1.size+1:=by rw[o];exact cP _ _
 rw[<-o];clear o c y q6 a5 s0 s;obtain⟨s0,s,_⟩:=aQ p6;go_upto_region 3 with(go_at_call 174;refine(aBY O P x _ b _ (Nat.lt_succ_self _) hb.1 hb.2 (Q.below z) (hs.below z)).mono ?_;rintro e l ⟨a4,rfl,hy,c⟩)
 obtain⟨f,k⟩:∃ f,f=l.alloc (vM a4):=⟨_,rfl⟩;have h9:=c.size;have r6:f.1[w.1.size]?=some (kE false g Z):=by rw[k];exact(eP c Oa).t p6
 have T:f.1[w.1.size+1]?=some pY:=by rw[k];exact(eP c Oa).t E
 have X:f.1[W.1.size]?=some (vM G):=by rw[k];exact(eP c Oa).t S
 have a3:f.1[l.1.size]?=some (vM a4):=by rw[k];exact Qk l _
 have q:Below w.1.size w f:=by rw[k];exact(z.t (c.mono z.size)).alloc Oa _
 have b2:f.1.size=l.1.size+1:=by rw[k];exact cP _ _
 rw[<-k];have b9:w.1.size+1 < W.1.size:=Oa
 have c5:W.1.size < l.1.size:=Oa
 have c6:l.1.size < f.1.size:=Oa
 clear k c z p6 E S s0 s kz a9 N h9 b2 k2;generalize W.1.size=a6 at*;generalize l.1.size=b4 at*;obtain⟨s0,s,_⟩:=aQ r6;obtain⟨x0,x1,_⟩:=cU X;obtain⟨y0,y1,_⟩:=cU a3;go_upto_if 24 with fail
 go_cut [13]from 25 to 58 (fun v w'=>∃ aGD:Int,v= Qc aGD/\f=w')
 case first=>
  cases or
  ·go_wp2;go_meet;exact⟨_,rfl,rfl⟩
  ·go_wp2;go_meet;exact⟨_,rfl,rfl⟩
 case rest=>
  obtain⟨aGD,rfl,rfl⟩:=hcut;go_upto_region 6 with fail
  go_cut [36]from 25 to 58 (fun v w'=>∃ t:Bool,v= .bool t/\f=w')
  case first=>
   obtain⟨t1,c9⟩:∃ t1,(a4.2==-9223372036854775808)=t1:=⟨_,rfl⟩;obtain⟨t2,d3⟩:∃ t2,(G.1==9223372036854775807)=t2:=⟨_,rfl⟩;cases or<;>cases t1<;>cases t2
   all_goals
    go_wp2;go_meet;exact⟨_,rfl,rfl⟩
  case rest=>
   obtain⟨t,rfl,rfl⟩:=hcut;have J:=hs.below q;have h7:=Q.below q;have k3:w.1.size < f.1.size:=Oa
   have h8:w.1.size+1 < f.1.size:=Oa
   cases t
   ·go_upto_region 11 with(go_at_call 176;refine(aJF O P x a false (_,_) ⟨by unfold I6;omega,sL _⟩ _ ha.1 h7 J).mono ?_;rintro e j ⟨d1,g1,rfl,p,c⟩)
    obtain⟨h,h0⟩:∃ h,h=j.alloc (kE d1 g1 Z):=⟨_,rfl⟩;have N:=c.size;have E:h.1[w.1.size+1]?=some pY:=by rw[h0];exact(eP c Oa).t T
    have S:h.1[a6]?=some (vM G):=by rw[h0];exact(eP c Oa).t X
    have b3:h.1[j.1.size]?=some (kE d1 g1 Z):=by rw[h0];exact Qk j _
    have a2:Below w.1.size w h:=by rw[h0];exact(q.t (c.mono q.size)).alloc Oa _
    have k4:fG Z d1 g1 h:=by rw[h0];exact p.below ((Below.refl _ _).alloc Ol _)
    have k1:h.1.size=j.1.size+1:=by rw[h0];exact cP _ _
    rw[<-h0];have b8:j.1.size < h.1.size:=Oa
    have h4:w.1.size+1 < h.1.size:=Oa
    clear h0 c k1 N r6 T X a3 s0 s x0 x1 y0 y1 q J h7;generalize j.1.size=b5 at*;obtain⟨s0,s,_⟩:=aQ b3;obtain⟨x0,x1,_⟩:=cU S;obtain⟨u0,u1,uf⟩:=dU E;go_wp2_with (go_at_call 176;refine(aJF O P x b d1 (_,_) ⟨sL _,by unfold I6;omega⟩ _ hb.1 (Q.below a2) k4).mono ?_;rintro e W6 ⟨d2,I,rfl,p,c⟩;obtain⟨hc,hf⟩:=oO c)
    have a8:=a2.t (c.mono a2.size);have u:=p.ne ((c.block _ h4).t E);refine bodyPost_ret (v:=oH d2 I Z) (by simp[results,results175,go_sem, *]) rfl ⟨_,_,rfl,p.move ?_,?_⟩
    ·exact(Om u).t (Om u)
    ·exact(a8.setCell (by show w.1.size<=w.1.size+1;omega) _).setCell (by show w.1.size<=w.1.size+1;omega) _
   ·go_upto_region 8 with(go_at_call 233;refine(aA3 false g Z _ J x).mono ?_;rintro e j ⟨I,rfl,b6,p,c⟩)
    have N:=c.size;have b7:=p.lt;have c7:w.1.size+1≠j.1.size:=Oa
    have c8:w.1.size+1 < j.1.size:=Oa
    obtain⟨u0,u1,uf⟩:=dU ((c.block _ Oa).t T);have a7:=q.t (c.mono q.size);clear r6 T X a3 s0 s x0 x1 y0 y1 J h7 k3 h8;go_wp2;have u:I≠w.1.size+1:=Oa
    refine bodyPost_ret (v:=oH true I Z) (by simp[results,results175,go_sem, *]) rfl ⟨_,_,rfl,p.dead.move ?_,?_⟩
    ·rw[iM,if_neg (by simp[World.setCell];omega)];exact(Om u).t (Om u)
    ·exact((a7.setCell (by show w.1.size<=w.1.size+1;omega) _).setCell (by show w.1.size<=w.1.size+1;omega) _).alloc (by simp[World.setCell];omega) _
end
section
variable {H U:Nat} {L C:List NQ} {A F:List Int} {ns Z g:Nat} {Y D M B:Value} {V:List V3} {K:Int->Prop}
structure ApW(Q g Z:Nat)(d:Bool)(x y:Int × Int)(w:World)(r:Int × Int)(w':World):Prop where
 p6:w'.1[w.1.size]?=some (kE d g Z)
 p8:w'.1[w.1.size+1]?=some (vM x)
 p9:w'.1[w.1.size+1+1]?=some (vM y)
 p10:w'.1[w.1.size+1+1+1]?=some pY
 p12:w'.1[Q]?=some (vM r)
 below:Below w.1.size w w'
 lt:w.1.size+4<=Q
 lo:I6 r.1
 hi:I6 r.2
section
variable {Q:Nat} {d:Bool} {x y r:Int × Int} {w w':World} {a:Int}
theorem ApW.set0(h:ApW Q g Z d x y w r w')(e:I6 a):ApW Q g Z d x y w (a,r.2) (w'.setCell ⟨Q,0,none⟩ (Qc a)):=by
 have h0:=h.lt;have c:∀ k,k≠Q->∀ o u,(w'.setCell ⟨Q,o,none⟩ u).1[k]?=w'.1[k]?:=(by grind[Below.heap_setCell]);exact⟨(c _ Oa _ _).t h.p6,(c _ Oa _ _).t h.p8,(c _ Oa _ _).t h.p9,(c _ Oa _ _).t h.p10,aI _ h.p12,h.below.setCell Qg _,h0,e,h.hi⟩
theorem ApW.set1(h:ApW Q g Z d x y w r w')(e:I6 a):ApW Q g Z d x y w (r.1,a) (w'.setCell ⟨Q,1,none⟩ (Qc a)):=by
 have h0:=h.lt;have c:∀ k,k≠Q->∀ o u,(w'.setCell ⟨Q,o,none⟩ u).1[k]?=w'.1[k]?:=(by grind[Below.heap_setCell]);exact⟨(c _ Oa _ _).t h.p6,(c _ Oa _ _).t h.p8,(c _ Oa _ _).t h.p9,(c _ Oa _ _).t h.p10,aI _ h.p12,h.below.setCell Qg _,h0,h.lo,e⟩
end
theorem aNK(P:Nok C L A F Z ns K)(hZ:L.length<=100000)(hv:Z<=100000)(k:Int)(d:Bool)(x y:Int × Int)(w:World)(hk:K k)(S:qQ H U L A F ns Y D M B V w)(I:fG Z d g w):
 Calls prog 177 #[Qd U,oH d g Z,Qc k,vN x,vN y] w (aJR Z w):=by
 obtain⟨a',ha,_⟩:=P k hk;obtain⟨J,h7,j,kz,o,p,q,m⟩:=al4 w (kE d g Z) (vM x) (vM y) pY;have HW:Hid (J=_):=h7;clear h7;go_enter func177,ntmps177
 go_upto_region 1 with fail
 rw[<-HW.o];clear HW;have h0:=S.below j;have z:=I.below j;obtain⟨k,gr,a3,b1,c1,b2,c2,b3,c3,rfl,a6,rfl,h8,g0,e0,_⟩:=h0.p0 ha;have a4:0<=(k:Int)/\(k:Int) < (L.length:Int):=Oa
 obtain⟨s0,s1,_⟩:=aQ o;obtain⟨x0,s,_⟩:=cU p;obtain⟨y0,u,_⟩:=cU q;obtain⟨u0,u1,uf⟩:=dU m;have W:Hid (Below w.1.size w J):=j;clear h8;go_cut [32]from 13 to 64 (fun v w'=>∃ t:Bool,v= .bool t/\J=w')
 case first=>
  obtain⟨t1,a9⟩:∃ t1,(y.1 !=y.2)=t1:=⟨_,rfl⟩;obtain⟨t2,b4⟩:∃ t2,(a'.d !=4)=t2:=⟨_,rfl⟩;clear I z h0 S P j o p q m;cases t1<;>cases t2<;>cases d
  all_goals
   go_wp2;go_meet;exact⟨_,rfl,rfl⟩
 case rest=>
  obtain⟨t,rfl,rfl⟩:=hcut;clear g0 e0;cases t
  case true=>
   go_wp2;exact bodyPost_ret (v:=oH d g Z) (by simp[results,results177,go_sem, *]) rfl ⟨_,_,rfl,I.below ((W.o.setCell (by show w.1.size<=w.1.size+1+1+1;omega) _).setCell (by show w.1.size<=w.1.size+1+1+1;omega) _),(W.o.setCell (by show w.1.size<=w.1.size+1+1+1;omega) _).setCell (by show w.1.size<=w.1.size+1+1+1;omega) _⟩
  go_upto_region 3 with fail
  go_cut [36]from 33 to 64 (fun v w'=>∃ t:Bool,v= .bool t/\J=w')
  case first=>
   clear I z h0 S P j o p q m;go_wp2
   all_goals go_meet
   all_goals exact⟨_,rfl,rfl⟩
  case rest=>
   obtain⟨t,rfl,rfl⟩:=hcut;cases t
   case true=>
    go_upto_region 5 with(go_at_call 233;refine(aA3 d g Z _ z hv).mono ?_;rintro e l ⟨O,rfl,a5,G,h⟩)
    have h6:=h.size;have a7:w.1.size+1+1+1≠l.1.size:=Oa
    have a8:w.1.size+1+1+1 < l.1.size:=Oa
    obtain⟨u0,u1,uf⟩:=dU ((h.block _ Oa).t m);have a2:=j.t (h.mono j.size);clear o p q m s0 s1 x0 s y0 u z h0;go_wp2;have E:O≠w.1.size+1+1+1:=Oa
    refine bodyPost_ret (v:=oH true O Z) (by simp[results,results177,go_sem, *]) rfl ⟨_,_,rfl,G.dead.move ?_,?_⟩
    ·rw[iM,if_neg (by have:=G.lt;simp[World.setCell];omega)];exact(Om E).t (Om E)
    ·exact((a2.setCell (by show w.1.size<=w.1.size+1+1+1;omega) _).setCell (by show w.1.size<=w.1.size+1+1+1;omega) _).alloc (by simp[World.setCell];omega) _
   go_upto_region 8 with(go_at_call 111;refine(tY _).mono ?_;rintro e l ⟨rfl,h⟩)
   obtain⟨N,h5⟩:∃ N,N=l.alloc (vM (-9223372036854775808,9223372036854775807)):=⟨_,rfl⟩;have h6:=h.size
   have c:ApW l.1.size g Z d x y w (-9223372036854775808,9223372036854775807) N:=by
    rw[h5];exact⟨(eP h Oa).t o,(eP h Oa).t p,(eP h Oa).t q,(eP h Oa).t m,Qk l _,(j.t (h.mono j.size)).alloc Oa _,Oa,by unfold I6;omega,by unfold I6;omega⟩
   rw[<-h5];clear h5 h h6 o p q m s0 s1 x0 s y0 u u0 u1 uf z h0 j W;generalize l.1.size=Q at*;obtain⟨r,hr⟩:∃ r:Int × Int,r=(-9223372036854775808,9223372036854775807):=⟨_,rfl⟩;rw[<-hr]at c;clear hr;have f:Hid (ApW Q g Z d x y w r N):=c;obtain⟨x0,s,_⟩:=cU c.p8;obtain⟨y0,u,_⟩:=cU c.p9;obtain⟨r0,T,rf⟩:=cU c.p12;clear c;obtain⟨bt,X⟩:∃ bt,(x.1==y.1)=bt:=⟨_,rfl⟩;go_upto_if 46 with fail
   go_cut []from 42 to 64 (fun w'=>∃ r,ApW Q g Z d x y w r w')
   case first=>
    cases bt
    ·go_wp2;go_meet;exact⟨_,f.o⟩
    ·go_wp2;go_meet;exact⟨_,f.o.set0 (sL _)⟩
   case rest=>
    clear x0 s y0 u r0 T rf f X;obtain⟨r,c⟩:=hcut;have f:Hid (ApW Q g Z d x y w r wc):=c;obtain⟨x0,s,_⟩:=cU c.p8;obtain⟨y0,u,_⟩:=cU c.p9;obtain⟨r0,T,rf⟩:=cU c.p12;clear c;generalize wc=W6 at*;obtain⟨bt,X⟩:∃ bt,(x.2==y.1)=bt:=⟨_,rfl⟩;go_upto_if 55 with fail
    go_cut []from 42 to 64 (fun w'=>∃ r,ApW Q g Z d x y w r w')
    case first=>
     cases bt
     ·go_wp2;go_meet;exact⟨_,f.o⟩
     ·go_wp2;go_meet;exact⟨_,f.o.set1 (sL _)⟩
    case rest=>
     clear x0 s y0 u r0 T rf f X;obtain⟨r,c⟩:=hcut;obtain⟨s0,s1,_⟩:=aQ c.p6;obtain⟨r0,T,_⟩:=cU c.p12;obtain⟨u0,u1,uf⟩:=dU c.p10;have h3:w.1.size+1+1+1 < wc.1.size:=(Oo c.p10);have f:Hid (ApW Q g Z d x y w r wc):=c;clear c;go_wp2_with (go_at_call 176;refine(aJF P hZ hv k d (_,_) ⟨f.o.lo,f.o.hi⟩ _ hk (S.below f.o.below) (I.below f.o.below)).mono ?_;rintro e W7 ⟨d2,O,rfl,G,h⟩;obtain⟨hc,hf⟩:=oO h)
     have E:=G.ne ((h.block _ h3).t f.o.p10);refine bodyPost_ret (v:=oH d2 O Z) (by simp[results,results177,go_sem, *]) rfl ⟨_,_,rfl,G.move ?_,?_⟩
     ·exact(Om E).t (Om E)
     ·exact((f.o.below.t (h.mono f.o.below.size)).setCell (by show w.1.size<=w.1.size+1+1+1;omega) _).setCell (by show w.1.size<=w.1.size+1+1+1;omega) _
end
section
variable {H U:Nat} {L C:List NQ} {A F:List Int} {ns Z g:Nat} {Y D M B:Value} {V:List V3} {K:Int->Prop}
theorem aGV(m:Nok C L A F Z ns K)(p:L.length<=100000)(q:Z<=100000)(a b:Int)(op:ByteArray)(d:Bool)(w:World)(E:ExK L K a)(G:ExK L K b)(hw:qQ H U L A F ns Y D M B V w)(hs:fG Z d g w):
 Calls prog 112 #[Qd U,oH d g Z,Qc a,.string op,Qc b] w (aJR Z w):=by
 obtain⟨W1,h9,S,kz,q6,a8⟩:=al2 w (kE d g Z) pY;have HW:Hid (W1=_):=h9;clear h9;go_enter func112,ntmps112
 go_upto_region 1 with fail
 rw[<-HW.o];have k0:w.1.size < W1.1.size:=Oa
 obtain⟨s0,s1,_⟩:=aQ q6;clear HW;obtain⟨u0,u1,uf⟩:=dU a8;cases d
 case true=>
  go_wp2;exact bodyPost_ret (v:=oH true g Z) (by simp[results,results112,go_sem, *]) rfl ⟨_,_,rfl,hs.below ((S.setCell (by show w.1.size<=w.1.size+1;omega) _).setCell (by show w.1.size<=w.1.size+1;omega) _),(S.setCell (by show w.1.size<=w.1.size+1;omega) _).setCell (by show w.1.size<=w.1.size+1;omega) _⟩
 clear u0 u1 uf;go_upto_region 4 with(go_at_call 174;refine(aBY m p q _ a _ (Nat.lt_succ_self _) E.1 E.2 (hw.below S) (hs.below S)).mono ?_;rintro e W ⟨x,rfl,hx,c⟩)
 obtain⟨N,P⟩:∃ N,N=W.alloc (vM x):=⟨_,rfl⟩;have k1:=c.size;have T:N.1[w.1.size]?=some (kE false g Z):=by rw[P];exact(eP c Oa).t q6
 have b3:N.1[w.1.size+1]?=some pY:=by rw[P];exact(eP c Oa).t a8
 have b4:N.1[W.1.size]?=some (vM x):=by rw[P];exact Qk W _
 have a2:Below w.1.size w N:=by rw[P];exact(S.t (c.mono S.size)).alloc Oa _
 have b6:N.1.size=W.1.size+1:=by rw[P];exact cP _ _
 rw[<-P];clear P c S q6 a8 s0 s1;obtain⟨s0,s1,_⟩:=aQ T;go_upto_region 5 with(go_at_call 174;refine(aBY m p q _ b _ (Nat.lt_succ_self _) G.1 G.2 (hw.below a2) (hs.below a2)).mono ?_;rintro e J ⟨y,rfl,hy,c⟩)
 obtain⟨f,z⟩:∃ f,f=J.alloc (vM y):=⟨_,rfl⟩;have h6:=c.size;have r6:f.1[w.1.size]?=some (kE false g Z):=by rw[z];exact(eP c Oa).t T
 have a4:f.1[w.1.size+1]?=some pY:=by rw[z];exact(eP c Oa).t b3
 have a9:f.1[W.1.size]?=some (vM x):=by rw[z];exact(eP c Oa).t b4
 have b2:f.1[J.1.size]?=some (vM y):=by rw[z];exact Qk J _
 have a3:Below w.1.size w f:=by rw[z];exact(a2.t (c.mono a2.size)).alloc Oa _
 have b7:f.1.size=J.1.size+1:=by rw[z];exact cP _ _
 rw[<-z];have b8:w.1.size+1 < W.1.size:=Oa
 have b9:W.1.size < J.1.size:=Oa
 have c5:J.1.size < f.1.size:=Oa
 clear z c a2 T b3 b4 s0 s1 kz b6 k1 h6 b7 k0;generalize W.1.size=O at*;generalize J.1.size=Q at*;obtain⟨s0,s1,_⟩:=aQ r6;obtain⟨x0,x1,_⟩:=cU a9;obtain⟨y0,y1,_⟩:=cU b2;have h3:=hs.below a3;have h0:=hw.below a3;have h5:w.1.size+1 < f.1.size:=Oa
 have fin:∀ (W:World) (j:Bool) (k:Nat),fG Z j k W->Below f.1.size f W->fG Z j k ((W.setCell ⟨w.1.size+1,0,none⟩ (.bool j)).setCell ⟨w.1.size+1,1,none⟩ (Qe k Z Z))/\Below w.1.size w ((W.setCell ⟨w.1.size+1,0,none⟩ (.bool j)).setCell ⟨w.1.size+1,1,none⟩ (Qe k Z Z)):=fun W j k l c=>by
  have h8:=l.ne ((c.block _ h5).t a4);exact⟨l.move ((Om h8).t (Om h8)),((a3.t (c.mono a3.size)).setCell (by show w.1.size<=w.1.size+1;omega) _).setCell (by show w.1.size<=w.1.size+1;omega) _⟩
 obtain⟨u0,u1,uf⟩:=dU a4;obtain⟨t1,c6⟩:∃ t,(op.toList==[60])=t:=⟨_,rfl⟩;cases t1
 case true=>
  go_wp2_with (go_at_call 175;refine(aCE m p q a b _ _ E G h0 h3).mono ?_;rintro e W5 ⟨j,k,rfl,l,c⟩;obtain⟨hc,hf⟩:=oO c)
  exact bodyPost_ret (v:=oH j k Z) (by simp[results,results112,go_sem, *]) rfl ⟨_,_,rfl,(fin _ _ _ l c).1,(fin _ _ _ l c).2⟩
 obtain⟨t2,c7⟩:∃ t,(op.toList==[60,61])=t:=⟨_,rfl⟩;cases t2
 case true=>
  go_wp2_with (go_at_call 175;refine(aCE m p q a b _ _ E G h0 h3).mono ?_;rintro e W5 ⟨j,k,rfl,l,c⟩;obtain⟨hc,hf⟩:=oO c)
  exact bodyPost_ret (v:=oH j k Z) (by simp[results,results112,go_sem, *]) rfl ⟨_,_,rfl,(fin _ _ _ l c).1,(fin _ _ _ l c).2⟩
 obtain⟨t3,c8⟩:∃ t,(op.toList==[62])=t:=⟨_,rfl⟩;cases t3
 case true=>
  go_wp2_with (go_at_call 175;refine(aCE m p q b a _ _ G E h0 h3).mono ?_;rintro e W5 ⟨j,k,rfl,l,c⟩;obtain⟨hc,hf⟩:=oO c)
  exact bodyPost_ret (v:=oH j k Z) (by simp[results,results112,go_sem, *]) rfl ⟨_,_,rfl,(fin _ _ _ l c).1,(fin _ _ _ l c).2⟩
 obtain⟨t4,c9⟩:∃ t,(op.toList==[62,61])=t:=⟨_,rfl⟩;cases t4
 case true=>
  go_wp2_with (go_at_call 175;refine(aCE m p q b a _ _ G E h0 h3).mono ?_;rintro e W5 ⟨j,k,rfl,l,c⟩;obtain⟨hc,hf⟩:=oO c)
  exact bodyPost_ret (v:=oH j k Z) (by simp[results,results112,go_sem, *]) rfl ⟨_,_,rfl,(fin _ _ _ l c).1,(fin _ _ _ l c).2⟩
 have X:∀ W:World,Below f.1.size f W->(W.cell? ⟨w.1.size,0,none⟩=some (.bool false)/\W.cell? ⟨w.1.size,1,none⟩=some (Qe g Z Z)/\W.cell? ⟨O,0,none⟩=some (Qc x.1)/\W.cell? ⟨O,1,none⟩=some (Qc x.2)/\W.cell? ⟨Q,0,none⟩=some (Qc y.1)/\W.cell? ⟨Q,1,none⟩=some (Qc y.2))/\W.cell? ⟨w.1.size+1,0,none⟩=some (.bool false)/\W.cell? ⟨w.1.size+1,1,none⟩=some (.slice none 0 0)/\∀ o,W.frozen? ⟨w.1.size+1,o,none⟩=false:=fun W c=>by
  obtain⟨m1,m2,_⟩:=aQ ((c.block _ Oa).t r6);obtain⟨m3,m4,_⟩:=cU ((c.block _ Oa).t a9);obtain⟨m5,m6,_⟩:=cU ((c.block _ Oa).t b2);exact⟨⟨m1,m2,m3,m4,m5,m6⟩,dU ((c.block _ Oa).t a4)⟩
 have I:∀ b,b≠w.1.size+1->∀ o b5 v (W:World),((W.setCell ⟨w.1.size+1,0,none⟩ b5).setCell ⟨w.1.size+1,1,none⟩ v).cell? ⟨b,o,none⟩=W.cell? ⟨b,o,none⟩:=fun b h o b5 v W=>(mR h).t (mR h);have z6:w.1.size≠w.1.size+1:=Oa
 have a5:O≠w.1.size+1:=Oa
 have a6:Q≠w.1.size+1:=Oa
 have HX:Hid (I6 x.1/\I6 x.2):=by unfold Rk at hx;unfold Hid I6;omega
 have HY:Hid (I6 y.1/\I6 y.2):=by unfold Rk at hy;unfold Hid I6;omega
 clear r6 a4 a9 b2 u0 u1 uf hx hy hs;obtain⟨t5,d2⟩:∃ t,(op.toList==[61,61])=t:=⟨_,rfl⟩;cases t5
 case true=>
  go_upto_region 15 with fail
  go_region_held3 (fun w'=>w'.cell? ⟨w.1.size,0,none⟩=some (.bool false)/\w'.cell? ⟨w.1.size,1,none⟩=some (Qe g Z Z)/\w'.cell? ⟨O,0,none⟩=some (Qc x.1)/\w'.cell? ⟨O,1,none⟩=some (Qc x.2)/\w'.cell? ⟨Q,0,none⟩=some (Qc y.1)/\w'.cell? ⟨Q,1,none⟩=some (Qc y.2))
   (first
     |exact a7.o
     |exact S2.o
     |(refine⟨?_,?_,?_,?_,?_,?_⟩<;>assumption)
     |exact(let⟨p1,p2,p3,p4,p5,T⟩:=S2.o;⟨(I _ z6 _ _ _ _).t p1,(I _ z6 _ _ _ _).t p2,(I _ a5 _ _ _ _).t p3,(I _ a5 _ _ _ _).t p4,(I _ a6 _ _ _ _).t p5,(I _ a6 _ _ _ _).t T⟩)
     |go_keep)
   (first
     |(go_at_call 176;refine(aJF m p q b d1 (_,_) HX.o _ G.1 (h0.below s) h7).mono ?_;rintro e Wb ⟨j,k,rfl,h4,Bb⟩;have u:Below f.1.size f Wb:=s.t (Bb.mono s.size);have S2:Hid _:=(X Wb u).1;obtain⟨u0,u1,uf⟩:=(X Wb u).2)
     |(go_at_call 176;refine(aJF m p q a false (_,_) HY.o _ E.1 (h0.below ((Below.refl _ _).drew)) (h3.below ((Below.refl _ _).drew))).mono ?_;rintro e Wa ⟨d1,g1,rfl,h7,Ba⟩;have s:Below f.1.size f Wa:=((Below.refl _ _).drew).t Ba;have a7:Hid _:=(X Wa s).1))
  go_wp2;exact bodyPost_ret (v:=oH j k Z) (by simp[results,results112,go_sem, *]) rfl ⟨_,_,rfl,(fin _ _ _ h4 u).1,(fin _ _ _ h4 u).2⟩
 go_upto_region 16 with fail
 go_region_held3 (fun w'=>w'.cell? ⟨w.1.size,0,none⟩=some (.bool false)/\w'.cell? ⟨w.1.size,1,none⟩=some (Qe g Z Z)/\w'.cell? ⟨O,0,none⟩=some (Qc x.1)/\w'.cell? ⟨O,1,none⟩=some (Qc x.2)/\w'.cell? ⟨Q,0,none⟩=some (Qc y.1)/\w'.cell? ⟨Q,1,none⟩=some (Qc y.2))
  (first
    |exact a7.o
    |exact S2.o
    |(refine⟨?_,?_,?_,?_,?_,?_⟩<;>assumption)
    |exact(let⟨p1,p2,p3,p4,p5,T⟩:=S2.o;⟨(I _ z6 _ _ _ _).t p1,(I _ z6 _ _ _ _).t p2,(I _ a5 _ _ _ _).t p3,(I _ a5 _ _ _ _).t p4,(I _ a6 _ _ _ _).t p5,(I _ a6 _ _ _ _).t T⟩)
    |go_keep)
  (first
    |(go_at_call 177;refine(aNK m p q b d1 y x _ G.1 (h0.below s) h7).mono ?_;rintro e Wb ⟨j,k,rfl,h4,Bb⟩;have u:Below f.1.size f Wb:=s.t (Bb.mono s.size);have S2:Hid _:=(X Wb u).1;obtain⟨u0,u1,uf⟩:=(X Wb u).2)
    |(go_at_call 177;refine(aNK m p q a false x y _ E.1 (h0.below ((Below.refl _ _).drew)) (h3.below ((Below.refl _ _).drew))).mono ?_;rintro e Wa ⟨d1,g1,rfl,h7,Ba⟩;have s:Below f.1.size f Wa:=((Below.refl _ _).drew).t Ba;have a7:Hid _:=(X Wa s).1))
 go_wp2;exact bodyPost_ret (v:=oH j k Z) (by simp[results,results112,go_sem, *]) rfl ⟨_,_,rfl,(fin _ _ _ h4 u).1,(fin _ _ _ h4 u).2⟩
end
section
variable {Z g:Nat}
structure MtW(D B C Z:Nat)(w:World)(R:List (Int × Int))(w':World):Prop where
 p3:w'.1[w.1.size+1]?=some (kE false C Z)
 p4:w'.1[w.1.size+1+1]?=some pY
 p5:w'.1[D]?=some (kE false B Z)
 row:vC B R w'
 other:fG Z false C w'
 len:R.length=Z
 rk:∀ r∈R,Rk r
 below:Below w.1.size w w'
 lt:w.1.size+3<=B
 ne:B < D
 old:C < w.1.size
section
variable {D B C i:Nat} {w w':World} {R:List (Int × Int)} {r:Int × Int} {a:Int}
theorem MtW.set0(h:MtW D B C Z w R w')(m:R[i]?=some r)(l:Rk (a,r.2)):MtW D B C Z w (R.set i (a,r.2)) (w'.setCell ⟨B,i*2,none⟩ (Qc a)):=by
 have e:=h.lt;have f:=h.ne;have j:=h.old;have c:∀ k,k≠B->∀ o u,(w'.setCell ⟨B,o,none⟩ u).1[k]?=w'.1[k]?:=(by grind[Below.heap_setCell]);exact⟨(c _ Oa _ _).t h.p3,(c _ Oa _ _).t h.p4,(c _ Oa _ _).t h.p5,h.row.set0 m a,h.other.move Qg,by rw[List.length_set];exact h.len,aRT h.rk l,h.below.setCell Qg _,e,f,j⟩
theorem MtW.set1(h:MtW D B C Z w R w')(m:R[i]?=some r)(l:Rk (r.1,a)):MtW D B C Z w (R.set i (r.1,a)) (w'.setCell ⟨B,i*2+1,none⟩ (Qc a)):=by
 have e:=h.lt;have f:=h.ne;have j:=h.old;have c:∀ k,k≠B->∀ o u,(w'.setCell ⟨B,o,none⟩ u).1[k]?=w'.1[k]?:=(by grind[Below.heap_setCell]);exact⟨(c _ Oa _ _).t h.p3,(c _ Oa _ _).t h.p4,(c _ Oa _ _).t h.p5,h.row.set1 m a,h.other.move Qg,by rw[List.length_set];exact h.len,aRT h.rk l,h.below.setCell Qg _,e,f,j⟩
theorem MtW.dr(h:MtW D B C Z w R w')(n:Nat):MtW D B C Z w R (w'.drewN n):=⟨h.p3,h.p4,h.p5,h.row,h.other.move rfl,h.len,h.rk,iJ h.below n,h.lt,h.ne,h.old⟩
theorem MtW.cells(h:MtW D B C Z w R w')(hi:i < Z):∃ r q:Int × Int,R[i]?=some r/\Rk r/\Rk q/\(w'.cell? ⟨w.1.size+1,1,none⟩=some (Qe C Z Z)/\w'.cell? ⟨D,1,none⟩=some (Qe B Z Z))
 /\(w'.cell? ⟨C,i*2,none⟩=some (Qc q.1)/\w'.cell? ⟨C,i*2+1,none⟩=some (Qc q.2))/\(w'.cell? ⟨B,i*2,none⟩=some (Qc r.1)/\w'.cell? ⟨B,i*2+1,none⟩=some (Qc r.2)/\∀ o,w'.frozen? ⟨B,o,none⟩=false):=by
 have f:=h.len;obtain⟨r,c⟩:∃ r,R[i]?=some r:=Qh;obtain⟨q,j,k,e⟩:=h.other.get hi;exact⟨r,q,c,h.rk r Qg,e rfl,⟨(aQ h.p3).2.1,(aQ h.p5).2.1⟩,Qj,h.row.get c⟩
end
theorem aL1(hv:Z<=100000)(E j:Bool)(G C:Nat)(w:World)(ha:fG Z E G w)(S:fG Z j C w):
 Calls prog 237 #[oH E G Z,oH j C Z] w (aJR Z w):=by
 obtain⟨W1,h9,m,kz,q2,q3,O⟩:=al3 w (kE E G Z) (kE j C Z) pY;have HW:Hid (W1=_):=h9;clear h9;have T:=S.lt;have a4:0<=(Z:Int):=Oa
 go_enter func237,ntmps237
 go_upto_region 1 with fail
 rw[<-HW.o];clear HW;have h8:=ha.below m;have h7:=S.below m;obtain⟨s0,o,_⟩:=aQ q2;obtain⟨x0,t,_⟩:=aQ q3;obtain⟨u0,u1,P⟩:=dU O;have k4:w.1.size+1+1 < W1.1.size:=Oa
 have fin:∀ (W:World) (u:Bool) (B:Nat),fG Z u B W->W.1[w.1.size+1+1]?=some pY->Below w.1.size w W->fG Z u B ((W.setCell ⟨w.1.size+1+1,0,none⟩ (.bool u)).setCell ⟨w.1.size+1+1,1,none⟩ (Qe B Z Z))/\Below w.1.size w ((W.setCell ⟨w.1.size+1+1,0,none⟩ (.bool u)).setCell ⟨w.1.size+1+1,1,none⟩ (Qe B Z Z)):=fun W u B k T f=>by
  have h5:=k.ne T;exact⟨k.move ((Om h5).t (Om h5)),(f.setCell (by show w.1.size<=w.1.size+1+1;omega) _).setCell (by show w.1.size<=w.1.size+1+1;omega) _⟩
 cases E
 case true=>
  go_wp2_with (go_at_call 233;refine(aA3 j C Z _ h7 hv).mono ?_;rintro e s ⟨B,rfl,k6,k,f⟩;obtain⟨hc,hf⟩:=oO f)
  have l:=fin s j B k ((f.block _ k4).t O) (m.t (f.mono m.size));exact bodyPost_ret (v:=oH j B Z) (by simp[results,results237,go_sem, *]) rfl ⟨_,_,rfl,l.1,l.2⟩
 go_upto_region 4 with(go_at_call 233;refine(aA3 false G Z _ h8 hv).mono ?_;rintro e s ⟨B,rfl,k6,k,f⟩)
 obtain⟨h,h0⟩:∃ h,h=s.alloc (kE false B Z):=⟨_,rfl⟩;have a2:=f.size;have X:h.1[w.1.size+1]?=some (kE j C Z):=by rw[h0];exact(eP f Oa).t q3
 have N:h.1[w.1.size+1+1]?=some pY:=by rw[h0];exact(eP f Oa).t O
 have p5:h.1[s.1.size]?=some (kE false B Z):=by rw[h0];exact Qk s _
 have J:Below w.1.size w h:=by rw[h0];exact(m.t (f.mono m.size)).alloc Oa _
 have k0:fG Z false B h:=by rw[h0];exact k.below ((Below.refl _ _).alloc Ol _)
 have h6:fG Z j C h:=S.below J;have k5:=k.lt;rw[<-h0];clear h0 f k q2 q3 O m h8 h7 s0 o x0 t u0 u1 P;generalize s.1.size=D at*;obtain⟨x0,t,_⟩:=aQ X;obtain⟨u0,u1,P⟩:=dU N;obtain⟨s0,o,_⟩:=aQ p5;cases j
 case true=>
  have l:=fin h false B k0 N J;go_wp2;exact bodyPost_ret (v:=oH false B Z) (by simp[results,results237,go_sem, *]) rfl ⟨_,_,rfl,l.1,l.2⟩
 obtain⟨R,k1,h2,k2⟩:=k0;have c:MtW D B C Z w R h:=⟨X,N,p5,h2,h6,k1,k2 rfl,J,Oa,k5,T⟩;clear X N p5 J h6 k1 h2 k2;go_wp2;clear s0 o x0 t u0 u1 P;go_loopg [6] (Z+1) (fun n v6 wr=>∃ (i:Nat) (R:List (Int × Int)),v6= Qc i/\i+n=Z+1/\MtW D B C Z w R wr)
 case atStart=>exact⟨0,R,rfl,Oa,c⟩
 case round=>
  clear c;obtain⟨i,R,rfl,a5,c⟩:=hrel;have o:=(aQ c.p5).2.1
  by_cases hi:i < Z
  ·have t0:decide ((i:Int) < (Z:Int))=true:=by simp;omega
   have a3:0<=(i:Int)/\(i:Int) < (Z:Int):=Oa
   obtain⟨n2,rfl⟩:=Oj gk;have a6:IntKind.i64.wrap ((i:Int)+1)=(i:Int)+1:=IntWalk.i64_in _ Oa;have p:Hid (MtW D B C Z w R wr):=c;obtain⟨r,q,I,h3,h4,⟨t,_⟩,⟨y0,y1⟩,r0,r1,rf⟩:=c.cells hi;clear c;obtain⟨bt,z⟩:∃ bt,Hid (bt=decide (q.1 < r.1)):=⟨_,rfl⟩;have tb:decide (q.1 < r.1)=bt:=z.o.symm;go_upto_region 9 with fail
   go_quiet (fail)
   go_upto_if 35 with fail
   go_cut []from 16 to 70 (fun w'=>∃ R,MtW D B C Z w R w')
   case first=>
    cases bt
    ·go_wp2;go_meet;exact⟨_,p.o.dr _⟩
    ·have k3:q.1 < r.1:=of_decide_eq_true tb;go_upto_region 10 with fail
     go_region
     all_goals go_wp2
     all_goals go_meet
     all_goals exact⟨_,(p.o.dr _).set0 I (by unfold Rk at*;dsimp only;omega)⟩
   case rest=>
    clear o t y0 y1 r0 r1 rf p z tb I h3 h4;obtain⟨R,c⟩:=hcut;have p:Hid (MtW D B C Z w R wc):=c;obtain⟨r,q,I,h3,h4,⟨t,o⟩,⟨y0,y1⟩,r0,r1,rf⟩:=c.cells hi;clear c;generalize wc=W6 at*;obtain⟨bt,z⟩:∃ bt,Hid (bt=decide (r.2 < q.2)):=⟨_,rfl⟩;have tb:decide (q.2 > r.2)=bt:=z.o.symm;go_upto_region 11 with fail
    go_quiet (fail)
    cases bt
    ·go_wp2;go_roundg n2
     case rel=>exact⟨i+1,R,Od,Oa,p.o.dr _⟩
     case measure=>omega
    ·have k3:r.2 < q.2:=of_decide_eq_true z.o.symm;go_upto_region 12 with fail
     go_region
     all_goals go_wp2
     all_goals go_roundg n2
     all_goals first
      |omega
      |exact⟨i+1,_,Od,Oa,(p.o.dr _).set1 I (by unfold Rk at*;dsimp only;omega)⟩
  ·have t0:decide ((i:Int) < (Z:Int))=false:=by simp;omega
   have l:=fin wr false B (c.row.st c.len fun _=>c.rk) c.p4 c.below;obtain⟨s0,o,_⟩:=aQ c.p5;obtain⟨u0,u1,P⟩:=dU c.p4;clear c;go_wp2;exact bodyPost_ret (v:=oH false B Z) (by simp[results,results237,go_sem, *]) rfl ⟨_,_,rfl,l.1,l.2⟩
end
section
variable {H U:Nat} {L C:List NQ} {A F:List Int} {ns Z g:Nat} {Y D M B:Value} {V:List V3} {K:Int->Prop} {w:World}
theorem qQ.f(h:qQ H U L A F ns Y D M B V w){i:Nat}(hi:i < ns):∃ (g J:Nat) (W:Value),B= Qe g ns J/\w.cell? ⟨U,5,none⟩=some (Qe g ns J)/\w.cell? ⟨g,i*3+2,none⟩=some W/\(∀ o,w.frozen? ⟨g,o,none⟩=false)
 /\∀ v,qQ H U L A F ns Y D M B V (w.setCell ⟨g,i*3+2,none⟩ v)/\Fd B w (w.setCell ⟨g,i*3+2,none⟩ v):=by
 obtain⟨vI,a4,O⟩:=h.prog;obtain⟨f,T⟩:=h.d;obtain⟨a2,P⟩:=T;rcases P with⟨_,X⟩|⟨g,J,l,rfl,I,m,u,E,cP,h0⟩
 ·omega
 have off:∀ {k:Nat} {s:Array Value} {t:TypeId},w.1[k]?=some (.cells s t (0,0))->t≠55->∀ o v,(w.setCell ⟨g,o,none⟩ v).1[k]?=w.1[k]?:=(by grind[Below.heap_setCell,bR])
 have j:∀ {n q:Nat} {e:TypeId} {z:Value} {f:List Value},w.ownsRow H e q z n f->e≠55->∀ o v,(w.setCell ⟨g,o,none⟩ v).ownsRow H e q z n f:=fun p a3 o v=>aR p (fun k N=>by
  obtain⟨⟨c,G⟩,_⟩:=aW p N
  grind)
 refine⟨g,J,l[i*3+2]'Oa,rfl,Og O rfl,by rw[cell_of_row _ _ _ _ _ _ m];simp,(by grind[World.frozen?]),fun v=>⟨⟨Qg,j h.nodes Ob _ _,j h.arrs Ob _ _,j h.fns Ob _ _,⟨f.set (i*3+2) v,?_⟩,h.c.move (fun k S=>by
  obtain⟨⟨c,G⟩,_⟩:=h.c.typ S
  grind)⟩,⟨rfl,rfl,rfl,Od,(by grind[Value.ownBlock,Below.heap_setCell])⟩⟩⟩
 refine⟨Qh,.r ⟨g,J,l.setIfInBounds (i*3+2) v,rfl,I,aI _ m,u,E,Qh,?_⟩⟩;rw[Array.toList_setIfInBounds,List.take_set,h0]
theorem qQ.drew(h:qQ H U L A F ns Y D M B V w)(n:Nat):qQ H U L A F ns Y D M B V (w.drewN n):=h.below (iJ (Below.refl _ _) n)
def gY(H U:Nat)(L:List NQ)(A F:List Int)(ns:Nat)(Y D M B:Value)(V:List V3)(w w':World):Prop:=qQ H U L A F ns Y D M B V w'/\Fd B w w'
theorem yW(h:Int)(I:h < ns)(_:ns<=1000000)(d yes:Bool)(s:qQ H U L A F ns Y D M B V w):
 Calls prog 235 #[Qd U,oH d g Z,Qc h,.bool yes] w fun e w'=>e= .returned (.tuple #[])/\gY H U L A F ns Y D M B V w w':=by
 obtain⟨c,q,k,-,t⟩:=al1 w (kE d g Z);have o:Hid (c=_):=q;clear q;go_enter func235,ntmps235
 go_upto_region 1 with fail
 rw[<-o.o];clear o;have j:=s.below k;obtain⟨s0,_⟩:=aQ t;have l:Hid (Fd B w c):=Fd.of k
 by_cases h0:0<=h
 ·obtain⟨i,rfl⟩:=Int.eq_ofNat_of_zero_le h0;have t0:decide ((i:Int)≥0)=true:=Od
  obtain⟨f,J,N,rfl,u,z,E,p⟩:=j.f (i:=i) Oa;have G:0<=(i:Int)/\(i:Int) < (ns:Int):=Oa
  have m:Hid (∀ v,qQ H U L A F ns Y D M (Qe f ns J) V (c.setCell ⟨f,i*3+2,none⟩ v)/\Fd (Qe f ns J) c (c.setCell ⟨f,i*3+2,none⟩ v)):=p;clear p j s k;cases d<;>cases yes
  all_goals
   go_upto_region 2 with fail
   go_region
  all_goals go_wp2
  all_goals go_end0
  all_goals exact⟨rfl,(m.o _).1.below (Below.refl _ _).drew,l.o.t ((m.o _).2.t (Fd.of (Below.refl _ _).drew))⟩
 ·have t0:decide (h≥0)=false:=by simp;omega
  go_wp2;go_end0
  exact⟨rfl,j,l.o⟩
theorem aQU(op:ByteArray)(a b:Int × Int)(w:World):Calls prog 332 #[.string op,vN a,vN b] w fun e w'=>∃ y:Bool,e= .returned (.bool y)/\Below w.1.size w w':=by
 obtain⟨k,h0,c,-,h,j⟩:=al2 w (vM a) (vM b);have f:Hid (k=_):=h0;clear h0;go_enter func332,ntmps332
 go_upto_region 1 with fail
 rw[<-f.o];clear f;obtain⟨a0,a1,_⟩:=cU h;obtain⟨b0,b1,_⟩:=cU j;clear h j;obtain⟨p,G⟩:∃ t,(op.toList==[60])=t:=⟨_,rfl⟩;cases p
 case true=>
  go_wp2;go_ret;exact⟨_,rfl,c⟩
 obtain⟨q,I⟩:∃ t,(op.toList==[60,61])=t:=⟨_,rfl⟩;cases q
 case true=>
  go_wp2;go_ret;exact⟨_,rfl,c⟩
 obtain⟨s,J⟩:∃ t,(op.toList==[62])=t:=⟨_,rfl⟩;cases s
 case true=>
  go_wp2;go_ret;exact⟨_,rfl,c⟩
 obtain⟨u,N⟩:∃ t,(op.toList==[62,61])=t:=⟨_,rfl⟩;cases u
 case true=>
  go_wp2;go_ret;exact⟨_,rfl,c⟩
 obtain⟨v,O⟩:∃ t,(op.toList==[61,61])=t:=⟨_,rfl⟩;cases v
 case true=>
  obtain⟨e1,o⟩:∃ t,(a.1==a.2)=t:=⟨_,rfl⟩;obtain⟨l,z⟩:∃ t,(b.1==b.2)=t:=⟨_,rfl⟩;obtain⟨m,E⟩:∃ t,(a.1==b.1)=t:=⟨_,rfl⟩;cases e1<;>cases l<;>cases m
  all_goals
   go_wp2;go_ret;exact⟨_,rfl,c⟩
 obtain⟨e1,o⟩:∃ t,decide (a.2 < b.1)=t:=⟨_,rfl⟩;cases e1
 all_goals
  go_wp2;go_ret;exact⟨_,rfl,c⟩
end
section
variable {H U:Nat} {L C:List NQ} {A F:List Int} {ns Z g:Nat} {Y D M B:Value} {V:List V3} {K:Int->Prop} {w:World}
theorem WfK.kid{i:Int}{n:NQ}(h:WfK L K i n):∀ y∈n.c,K y/\y < i:=by
 rcases h with⟨_,h⟩|⟨_,h⟩|⟨_,h⟩|⟨_,y,h,j⟩|⟨_,y,z,h,j,k⟩|⟨_,y,z,h,j,k⟩|⟨_,c,b,r,h,j,k,m⟩
 ·simp[*]
 ·exact fun y l=>⟨(h y l).1,(h y l).2.1⟩
 ·exact fun y l=>⟨(h y l).1,(h y l).2.1⟩
 ·intro x f;rw[h]at f;rw[List.mem_singleton.1 f];exact⟨j.1,j.2.1⟩
 ·intro x f;rw[h]at f;rcases List.mem_cons.1 f with rfl|f
  ·exact⟨j.1,j.2.1⟩
  ·rw[List.mem_singleton.1 f];exact⟨k.1,k.2.1⟩
 ·intro x f;rw[h]at f;rcases List.mem_cons.1 f with rfl|f
  ·exact⟨j.1,j.2.1⟩
  ·rw[List.mem_singleton.1 f];exact⟨k.1,k.2.1⟩
 ·intro x f;rw[h]at f;rcases List.mem_cons.1 f with rfl|f
  ·exact⟨j.1,j.2.1⟩
  rcases List.mem_cons.1 f with rfl|f
  ·exact⟨k.1,k.2.1⟩
  rcases m with m|⟨_,e,m,o⟩
  ·grind
  ·rw[m]at f;rw[List.mem_singleton.1 f];exact⟨o.1,o.2.1⟩
theorem aGM{w:World}{e:TypeId}{c n:Nat}{v:Value}{f:List Value}(h:w.ownsRow H e c v n f):n<=maxLen:=by
 rcases h.2 with⟨_,h⟩|⟨_,J,j,_,_,_,k,l,_⟩
 ·omega
 ·omega
def aX9(w:World):Ending->World->Prop:=fun e w'=>∃ b:Bool,e= .returned (.bool b)/\Below w.1.size w w'
theorem aRL(q:Nok C L A F Z ns K)(hZ:L.length<=100000)(v:Int):∀ (n:Nat) (y:Int) (w:World),y.toNat < n->K y->qQ H U L A F ns Y D M B V w->
 Calls prog 296 #[Qd U,Qc y,Qc v] w (aX9 w):=by
 intro n
 induction n with
 |zero=>intro y w h;omega
 |succ n ih=>
  intro y w hn hk s;obtain⟨c,ha,O,_⟩:=q y hk;obtain⟨a2,gr,a9,b1,c1,I,c2,J,c3,rfl,b5,rfl,l,g0,e0,e1,e2,e3,e4,e5,e6,e7,e8,e9,a4⟩:=s.p0 ha;have h0:=O.kid;have k1:=aGM l.k;have b2:0<=(a2:Int)/\(a2:Int) < (L.length:Int):=Oa
  have W:=Qp w _ g0;have T:=Qp w _ e0;dsimp only at W T;obtain⟨k,X,f,-,j⟩:=al1 w (rJ c b1 c1 I c2 J c3);have G:Hid (k=_):=X;clear X;go_enter func296,ntmps296
  go_upto_region 2 with fail
  rw[<-G.o];clear G g0 e0 e1 e2 e3 e4 e5 e6 e7 e8 e9 a4 W T;have l0:k.cell? ⟨w.1.size,0,none⟩=some (Qc c.d):=Og j rfl
  have l9:k.cell? ⟨w.1.size,9,none⟩=some (Qc c.ref):=Og j rfl
  go_cut [30]from 17 to 46 (fun x w'=>∃ t:Bool,x= .bool t/\k=w')
  case first=>
   obtain⟨u,b7⟩:∃ u,(c.d==12)=u:=⟨_,rfl⟩;obtain⟨z,b8⟩:∃ z,(c.d==13)=z:=⟨_,rfl⟩;obtain⟨E,b9⟩:∃ E,(c.ref==v)=E:=⟨_,rfl⟩;clear ih s q h0 O l j f;cases u<;>cases z<;>cases E
   all_goals
    go_wp2;go_meet;exact⟨_,rfl,rfl⟩
  case rest=>
   obtain⟨t,rfl,rfl⟩:=hcut;clear l0 l9;cases t
   case true=>
    go_wp2;go_ret;exact⟨_,rfl,f⟩
   go_wp2;go_loopg [8] (c.c.length+1) (fun n v8 wr=>∃ i:Nat,v8= Qc i/\i+n=c.c.length+1/\Below w.1.size w wr/\wr.1[w.1.size]?=some (jJ c b1 c1 I c2 J c3))
   case atStart=>exact⟨0,rfl,Oa,f,j⟩
   case round=>
    clear f j;obtain⟨i,rfl,b4,f,j⟩:=hrel;have l5:wr.cell? ⟨w.1.size,5,none⟩=some (.slice b1 c.c.length c1):=Og j rfl
    by_cases hi:i < c.c.length
    ·have t0:decide ((i:Int) < (c.c.length:Int))=true:=by simp;omega
     obtain⟨a5,rfl⟩:=Oj gk;have b3:0<=(i:Int)/\(i:Int) < (c.c.length:Int):=Oa
     have c5:IntKind.i64.wrap ((i:Int)+1)=(i:Int)+1:=IntWalk.i64_in _ (by unfold maxLen at k1;omega);obtain⟨y,hy⟩:∃ y,c.c[i]?=some y:=⟨c.c[i],List.getElem?_eq_getElem _⟩;obtain⟨g6,a8,P,m,k0⟩:=pZ l hy;simp only[Value.slice.injEq]at P;obtain⟨rfl,-,rfl⟩:=P;have m:=(f.cell (p:=⟨g6,i,none⟩) k0).t m;obtain⟨S,b6⟩:=h0 y (Qr hy);obtain⟨_,N,_⟩:=q y S;have N:=N.1;go_upto_region 8 with(go_at_call 296;refine(ih y _ Oa S (s.below f)).mono ?_;rintro e a7 ⟨b,rfl,o⟩)
     have a3:=f.t (o.mono f.size);have a6:=(o.block _ (Oo j)).t j;clear l5 m j f o;cases b
     ·go_wp2;go_roundg a5
      case rel=>exact⟨i+1,Od,Oa,a3,a6⟩
      case measure=>omega
     ·go_wp2;go_ret;exact⟨_,rfl,a3⟩
    ·have t0:decide ((i:Int) < (c.c.length:Int))=false:=by simp;omega
     go_wp2;go_ret;exact⟨_,rfl,f⟩
def aWG(w:World):Ending->World->Prop:=fun e w'=>∃ x:ByteArray,e= .returned (.string x)/\Below w.1.size w w'
theorem aKW(op:ByteArray)(w:World):Calls prog 295 #[.string op] w (aWG w):=by
 obtain⟨c,h0⟩:∃ c,c=(w.alloc (Qf #[.string ⟨#[60]⟩,.string ⟨#[60,61]⟩,.string ⟨#[62]⟩,.string ⟨#[62,61]⟩,.string ⟨#[61,61]⟩,.string ⟨#[33,61]⟩] 9)).alloc (Qf #[.string ⟨#[62,61]⟩,.string ⟨#[62]⟩,.string ⟨#[60,61]⟩,.string ⟨#[60]⟩,.string ⟨#[33,61]⟩,.string ⟨#[61,61]⟩] 9):=⟨_,rfl⟩
 have f:Below w.1.size w c:=by
  rw[h0];exact((Below.refl _ _).alloc Ol _).alloc (by rw[cP];omega) _
 have u:c.1.size=w.1.size+2:=by rw[h0];simp only[cP]
 have six:∀ i:Nat,i < 6->∃ x y:ByteArray,c.cell? ⟨w.1.size,i,none⟩=some (.string x)/\c.cell? ⟨w.1.size+1,i,none⟩=some (.string y):=fun i hi=>by
  have h:c.1[w.1.size]?=some (Qf #[.string ⟨#[60]⟩,.string ⟨#[60,61]⟩,.string ⟨#[62]⟩,.string ⟨#[62,61]⟩,.string ⟨#[61,61]⟩,.string ⟨#[33,61]⟩] 9):=by
   rw[h0]
   repeat (first|rw[iM,if_neg (by simp only[cP];omega)]|rw[iM,if_pos (by simp only[])])
  have j:c.1[w.1.size+1]?=some (Qf #[.string ⟨#[62,61]⟩,.string ⟨#[62]⟩,.string ⟨#[60,61]⟩,.string ⟨#[60]⟩,.string ⟨#[33,61]⟩,.string ⟨#[61,61]⟩] 9):=by
   rw[h0]
   repeat (first|rw[iM,if_neg (by simp only[cP];omega)]|rw[iM,if_pos (by simp only[cP])])
  rw[cell_of_row _ _ _ _ _ _ h,cell_of_row _ _ _ _ _ _ j];have:i=0\/i=1\/i=2\/i=3\/i=4\/i=5:=Oa
  rcases this with rfl|rfl|rfl|rfl|rfl|rfl
  all_goals exact⟨_,_,rfl,rfl⟩
 have e:Hid (c=_):=h0;clear h0;go_enter func295,ntmps295
 go_upto_region 3 with fail
 rw[<-e.o];clear e;go_wp2;go_loopg [5] 7 (fun n v wr=>∃ i:Nat,v= Qc i/\i+n=7/\c=wr)
 case atStart=>exact⟨0,rfl,Oa,rfl⟩
 case round=>
  obtain⟨i,rfl,l,rfl⟩:=hrel
  by_cases hi:i < 6
  ·obtain⟨x,y,q,s⟩:=six i hi;have t0:decide ((i:Int) < 6)=true:=by simp;omega
   obtain⟨m,rfl⟩:=Oj gk;have k:0<=(i:Int)/\(i:Int) < 6:=Oa
   have p:IntKind.i64.wrap ((i:Int)+1)=(i:Int)+1:=IntWalk.i64_in _ Oa;obtain⟨t,o⟩:∃ t,(x.toList==op.toList)=t:=⟨_,rfl⟩;clear six;cases t
   ·go_wp2;go_roundg m
    case rel=>exact⟨i+1,Od,Oa,rfl⟩
    case measure=>omega
   ·go_wp2;go_ret;exact⟨_,rfl,f⟩
  ·have t0:decide ((i:Int) < 6)=false:=by simp;omega
   go_wp2;go_ret;exact⟨_,rfl,f⟩
end
section
variable {H U:Nat} {L E:List NQ} {A F:List Int} {ns Z g:Nat} {Y D M B C:Value} {V:List V3} {K:Int->Prop}
def aHB(L:List NQ)(m:Nat)(y:Int):Prop:=∃ n,jM L y n/\(n.d=4->0<=n.ref/\n.ref < m)
def aUD(L:List NQ)(m:Nat)(c:Int):Prop:=∃ n y z,jM L c n/\n.c=[y,z]/\aHB L m y/\aHB L m z
def SdW(b:Nat)(w:World):Prop:=∃ cs:Array Value,w.1[b]?=some (.cells cs 473 (0,0))/\cs.size=4/\∀ o,o < 4->∃ u:Int,cs[o]?=some (Qc u)
theorem SdW.set{b o:Nat}{u:Int}{w:World}(h:SdW b w):SdW b (w.setCell ⟨b,o,none⟩ (Qc u)):=by
 obtain⟨e,c,f,j⟩:=h;refine⟨_,aI _ c,Qh,fun l k=>?_⟩
 grind
theorem SdW.get{b:Nat}{w:World}(h:SdW b w){o:Nat}(k:o < 4):∃ u:Int,w.cell? ⟨b,o,none⟩=some (Qc u):=by
 obtain⟨c,e,f,j⟩:=h
 grind[cell_of_row]
theorem SdW.fr{b:Nat}{w:World}(h:SdW b w)(o:Nat):w.frozen? ⟨b,o,none⟩=false:=by
 obtain⟨e,c,_⟩:=h;simp[World.frozen?,c]
theorem SdW.below{b:Nat}{w w':World}(h:SdW b w)(k:Below w.1.size w w'):SdW b w':=by
 obtain⟨c,e,f,j⟩:=h;exact⟨c,(k.block _ Qg).t e,f,j⟩
theorem wK{C:Value}{R:List (Int × Int)}{w:World}(m:w.ownsRow H 232 2 C R.length (qZ R)){i:Nat}(hi:i < R.length):∃ (g J:Nat) (r:Int × Int),R[i]?=some r/\C= Qe g R.length J/\w.cell? ⟨g,i*2,none⟩=some (Qc r.1)/\w.cell? ⟨g,i*2+1,none⟩=some (Qc r.2)/\g < w.1.size:=by
 obtain⟨r,h0⟩:∃ r,R[i]?=some r:=Qh;obtain⟨f,k⟩:=aC4 R i r h0;rcases m.2 with⟨_,h⟩|⟨g,J,o,rfl,_,e,p,_,cP,l⟩
 ·omega
 have c:∀ j,j < R.length*2->w.cell? ⟨g,j,none⟩=(qZ R)[j]?:=fun j c=>by
  rw[cell_of_row _ _ _ _ _ _ e,<-l,List.getElem?_take,if_pos c];simp
 exact⟨g,J,r,h0,rfl,by rw[c _ Oa];exact f,by rw[c _ Oa];exact k,(Oo e)⟩
theorem aUP(_:L.length<=100000)(_:F.length<=100000)(f:Nat)(x:Int)(v:NQ)(hf:F[f]?=some x)(hx:jM L x v)(R:List (Int × Int))(y6:∀ c∈v.e,aUD L R.length c)(w:World)(hw:qQ H U L A F ns Y D M B V w){Hb:Nat}(hr:w.ownsRow Hb 232 2 C R.length (qZ R)):
 Calls prog 294 #[Qd U,Qc (f:Int),C] w (aX9 w):=by
 obtain⟨a8,gr,b9,b1,c1,b2,c2,b3,c3,rfl,f6,rfl,y1,g0,e0,e1,e2,e3,e4,e5,e6,e7,e8,e9,X⟩:=hw.p0 hx;obtain⟨gf,cf,rfl,z4⟩:=dQ hw.fns hf;have d9:=(List.getElem?_eq_some_iff.1 hf).1;have c5:0<=(f:Int)/\(f:Int) < (F.length:Int):=Oa
 have c7:0<=(a8:Int)/\(a8:Int) < (L.length:Int):=Oa
 have z2:w.cell? ⟨U,3,none⟩=some (Qe gf F.length cf):=by
  obtain⟨vI,g7,hp⟩:=hw.prog;rw[cell_of_row _ _ _ _ _ _ hp];rfl
 have z0:=aGM y1.h;go_enter func294,ntmps294
 go_upto_region 1 with fail
 go_quiet (fail)
 go_upto_region 2 with fail
 clear e0 e1 e2 e3 e4 e5 e6 e7 e8 e9 X g0 z2 z4;go_wp2;have kd:Below w.1.size w (w.drewN nq):=iJ (Below.refl _ _) nq;go_loopg [8] (v.e.length+1) (fun n v8 wr=>∃ i:Nat,v8= Qc i/\i+n=v.e.length+1/\Below w.1.size w wr)
 case atStart=>exact⟨0,rfl,Oa,kd⟩
 case round=>
  clear kd;obtain⟨i,rfl,f2,m⟩:=hrel
  by_cases hi:i < v.e.length
  ·have t0:decide ((i:Int) < (v.e.length:Int))=true:=by simp;omega
   have d2:0<=(i:Int)/\(i:Int) < (v.e.length:Int):=Oa
   obtain⟨n2,rfl⟩:=Oj gk;have g3:IntKind.i64.wrap ((i:Int)+1)=(i:Int)+1:=IntWalk.i64_in _ (by unfold maxLen at z0;omega);obtain⟨c,hc⟩:∃ c,v.e[i]?=some c:=⟨v.e[i],List.getElem?_eq_getElem _⟩;obtain⟨t,y,a7,z3,h0,hy,hz⟩:=y6 c (Qr hc);obtain⟨gw,cw,y0,h8⟩:=dQ y1.h hc;have k0:=Qp _ _ h8;simp only[Value.slice.injEq]at y0;obtain⟨rfl,-,rfl⟩:=y0;have k7:=hw.below m;obtain⟨k9,b5,b4,a1,d1,J,O,N,P,rfl,f4,hv,y7,g0,e0,e1,e2,e3,e4,e5,e6,e7,e8,e9,X⟩:=k7.p0 z3;simp only[Value.slice.injEq,Option.some.injEq,Addr.mk.injEq]at hv;obtain⟨⟨rfl,-⟩,-,rfl⟩:=hv;have k4:0<=(k9:Int)/\(k9:Int) < (L.length:Int):=Oa
   have h8:=(m.cell (p:=⟨gw,i,none⟩) k0).t h8;have h7:=Qp _ _ g0;have h6:=Qp _ _ e0;have k0:=Qp _ _ h8;dsimp only at h7 h6 k0;have k5:Hid (t.c=[y,a7]):=h0;clear h0;go_upto_region 5 with fail
   go_cut [9]from 34 to 84 (fun z w'=>∃ s:Nat,z= Qd s/\w'.1[s]?=some (jJ t a1 d1 J O N P)/\w.1.size<=s/\Below wr.1.size wr w')
   case first=>
    go_region
    all_goals go_wp2
    all_goals go_meet
    all_goals exact⟨_,rfl,Qk wr _,m.size,((Below.refl _ _).alloc Ol _).drew⟩
   case rest=>
    obtain⟨s,rfl,q,c9,k⟩:=hcut;have c8:=(Oo q);have k6:=k.size;clear h8 h7 h6 k0 g0 e0 e1 e2 e3 e4 e5 e6 e7 e8 e9 X k7;generalize wc=S at*;go_upto_region 7 with fail
    obtain⟨T,h9⟩:∃ T,T=S.alloc (Qf #[Qc 0,Qc 0,Qc 0,Qc 0] 473):=⟨_,rfl⟩;have q:T.1[s]?=some (jJ t a1 d1 J O N P):=by rw[h9,iM,Oh];exact q
    have l:SdW S.1.size T:=⟨_,by rw[h9];exact Qk S _,rfl,fun o ho=>by
     have:o=0\/o=1\/o=2\/o=3:=Oa
     rcases this with rfl|rfl|rfl|rfl
     all_goals exact⟨_,rfl⟩⟩
    have k:Below wr.1.size wr T:=by rw[h9];exact k.alloc k6 _
    rw[<-h9];have h0:=k5.o;have g5:wr.1.size<=S.1.size:=k6;clear h9;generalize S.1.size=I at*;go_wp2;obtain⟨w2,rfl⟩:∃ w2,w2=wr:=⟨_,rfl⟩;go_loopg [11] 3 (fun n b7 wJ=>∃ j:Nat,b7= Qc j/\j+n=3/\wJ.1[s]?=some (jJ t a1 d1 J O N P)/\SdW I wJ/\Below w2.1.size w2 wJ)
    case atStart=>exact⟨0,rfl,Oa,q,l,k⟩
    case round=>
     clear q l k;obtain⟨j,rfl,f7,q,l,k⟩:=hrel
     by_cases f5:j < 2
     ·have t1:decide ((j:Int) < 2)=true:=by simp;omega
      obtain⟨m2,rfl⟩:=Oj gk;have d3:0<=(j:Int)/\(j:Int) < 2:=Oa
      have g4:IntKind.i64.wrap ((j:Int)+1)=(j:Int)+1:=IntWalk.i64_in _ Oa
      obtain⟨y',y5,u,y8,h5⟩:∃ y',t.c[j]?=some y'/\aHB L R.length y':=by
       have:j=0\/j=1:=Oa
       rcases this with rfl|rfl
       ·exact⟨y,by rw[h0];rfl,hy⟩
       ·exact⟨a7,by rw[h0];rfl,hz⟩
      obtain⟨g6,b8,k8,k1,y9⟩:=pZ y7 y5;simp only[Value.slice.injEq]at k8;obtain⟨rfl,-,rfl⟩:=k8;have k3:t.c.length=2:=by rw[h0];rfl
      have k1:=(k.cell (p:=⟨g6,j,none⟩) y9).t k1;have l5:wr.cell? ⟨s,5,none⟩=some (Qe g6 2 d1):=by rw[cell_of_row _ _ _ _ _ _ q,<-k3];rfl
      have b6:=m.t (k.mono m.size);obtain⟨kn,b5,b4,a4,d4,a5,d5,a6,d6,rfl,f8,hv,_,g0,e0,e1,e2,e3,e4,e5,e6,e7,e8,e9,X⟩:=(hw.below b6).p0 y8;simp only[Value.slice.injEq,Option.some.injEq,Addr.mk.injEq]at hv;obtain⟨⟨rfl,-⟩,-,rfl⟩:=hv;have d7:0<=(kn:Int)/\(kn:Int) < (L.length:Int):=Oa
      have h7:=Qp _ _ g0;have h6:=Qp _ _ e0;have y3:=Qp _ _ k1;have k4:=Qp _ _ l5;dsimp only at h7 h6 y3 k4;have k5:Hid (t.c=[y,a7]/\t.c.length=2):=⟨h0,k3⟩;clear h0 k3;go_upto_region 10 with fail
      go_cut [12]from 48 to 75 (fun z w'=>∃ b:Nat,z= Qd b/\w'.1[b]?=some (jJ u a4 d4 a5 d5 a6 d6)/\wr.1.size<=b/\Below wr.1.size wr w')
      case first=>
       go_region
       all_goals go_wp2
       all_goals go_meet
       all_goals exact⟨_,rfl,Qk wr _,Ql _,((Below.refl _ _).alloc Ol _).drew⟩
      case rest=>
       obtain⟨Q,rfl,a2,c6,k2⟩:=hcut;have f9:=(Oo l.choose_spec.1);have q:=(k2.block _ k4).t q;have l:=l.below k2;have k:=k.t (k2.mono k.size);have g1:Q≠I:=Oa
       have h0:=k5.o.1;clear k1 l5 g0 e0 e1 e2 e3 e4 e5 e6 e7 e8 e9 X h7 h6 y3 k2;generalize wc=G at*;have l0:G.cell? ⟨Q,0,none⟩=some (Qc u.d):=Og a2 rfl
       have l3:G.cell? ⟨Q,3,none⟩=some (Qc u.n):=Og a2 rfl
       have l9:G.cell? ⟨Q,9,none⟩=some (Qc u.ref):=Og a2 rfl
       obtain⟨u0,c0⟩:=l.get (o:=j*2) Oa;obtain⟨u1,c1⟩:=l.get (o:=j*2+1) Oa;have cf:=l.fr;have cP:=m.size
       have fin:∀ (a3 z:Int) (W:World),W.1[s]?=some (jJ t (some ⟨g6,0,none⟩) d1 J O N P)/\SdW I W/\Below w2.1.size w2 W->((W.setCell ⟨I,j*2,none⟩ (Qc a3)).setCell ⟨I,j*2+1,none⟩ (Qc z)).1[s]?=some (jJ t (some ⟨g6,0,none⟩) d1 J O N P)/\SdW I ((W.setCell ⟨I,j*2,none⟩ (Qc a3)).setCell ⟨I,j*2+1,none⟩ (Qc z))/\Below w2.1.size w2 ((W.setCell ⟨I,j*2,none⟩ (Qc a3)).setCell ⟨I,j*2+1,none⟩ (Qc z)):=fun a3 z W ⟨h1,h2,h3⟩=>
        ⟨(Om (by show s≠I;omega)).t ((Om (by show s≠I;omega)).t h1),h2.set.set,(h3.setCell (by show w2.1.size<=I;omega) _).setCell (by show w2.1.size<=I;omega) _⟩
       have HZ:Hid (G.1[s]?=some (jJ t (some ⟨g6,0,none⟩) d1 J O N P)/\SdW I G/\Below w2.1.size w2 G):=⟨q,l,k⟩
       by_cases h4:u.d=4
       ·have t4:(u.d==4)=true:=by simp[h4]
        obtain⟨o1,o2⟩:=h5 h4;obtain⟨ir,z1⟩:=Int.eq_ofNat_of_zero_le o1;obtain⟨gv,cv,rr,_,rfl,r0,r1,y2⟩:=wK hr (i:=ir) Oa;have r0:=(m.t (k.mono m.size)).cell (p:=⟨gv,ir*2,none⟩) y2|>.t r0
        have r1:=(m.t (k.mono m.size)).cell (p:=⟨gv,ir*2+1,none⟩) y2|>.t r1
        have g2:gv≠I:=Oa
        have d8:0<=(ir:Int)/\(ir:Int) < (R.length:Int):=Oa
        rw[z1]at l9;clear q l k a2;go_wp2;go_roundg m2
        case rel=>
         have h:=fin rr.1 rr.2 _ (fin u.n u.n _ HZ.o);exact⟨j+1,Od,Oa,h.1,h.2.1,h.2.2⟩
        case measure=>omega
       ·have t4:(u.d==4)=false:=by simp[h4]
        clear q l k a2;go_wp2;go_roundg m2
        case rel=>
         have h:=fin u.n u.n _ HZ.o;exact⟨j+1,Od,Oa,h.1,h.2.1,h.2.2⟩
        case measure=>omega
     ·have t1:decide ((j:Int) < 2)=false:=by simp;omega
      obtain⟨u0,c0⟩:=l.get (o:=0) Oa;obtain⟨u1,c1⟩:=l.get (o:=1) Oa;obtain⟨u2,c2⟩:=l.get (o:=2) Oa;obtain⟨u3,c3⟩:=l.get (o:=3) Oa;have l2:wr.cell? ⟨s,2,none⟩=some (.string t.s):=Og q rfl
      clear q l;go_upto_region 15 with(go_at_call 332;refine(aQU t.s (_,_) (_,_) _).mono ?_;rintro e G ⟨ok,rfl,y4⟩)
      have a9:=(m.t (k.mono m.size)).t (y4.mono (m.t (k.mono m.size)).size);clear c0 c1 c2 c3 l2 k y4;cases ok
      ·go_wp2;go_ret;exact⟨_,rfl,a9⟩
      ·go_wp2;go_roundg n2
       case rel=>exact⟨i+1,Od,Oa,a9⟩
       case measure=>omega
  ·have t0:decide ((i:Int) < (v.e.length:Int))=false:=by simp;omega
   go_wp2;go_ret;exact⟨_,rfl,m⟩
end
end Go.Proofs.YtikffmloeifkpaaGreatDoor
