/- Contracts. -/
import Derived.Test.YtikffmloeifkpaaGreatDoorP35
import Derived.Test.YtikffmloeifkpaaGreatDoorP30
import Derived.Test.YtikffmloeifkpaaGreatDoorP36
import Derived.Test.YtikffmloeifkpaaGreatDoorP31
set_option maxHeartbeats 16000000
set_option maxRecDepth 100000
namespace Go.Proofs.YtikffmloeifkpaaGreatDoor
open Go.RowKit Go.Lib Go.Deep Go.Maps Go.ChangeMaps Go.MapKept
variable {w0:World} {mb:Nat} {g g':Nat->Bool} {u w w':World} {m:Bool}
structure Fb(b:Nat)(w w':World):Prop where
 os:w'.os=w.os
 tape:w'.tape=w.tape
 output:w'.output=w.output
 size:w.heap.size<=w'.heap.size
 oth:∀ (k:Nat),k < w.heap.size->k≠b->w'.heap[k]?=w.heap[k]?
theorem Fb.refl(b:Nat)(w:World):Fb b w w:=⟨rfl,rfl,rfl,Nat.le_refl _,fun _ _ _=>rfl⟩
theorem Fb.trans{b:Nat}(h:Fb b u w)(k:Fb b w w'):Fb b u w':=
 ⟨k.os.trans h.os,k.tape.trans h.tape,k.output.trans h.output,Nat.le_trans h.size k.size,fun i hi hn=>(k.oth i (by have:=h.size;omega) hn).trans (h.oth i hi hn)⟩
theorem Fb.drew{b:Nat}(h:Fb b u w):Fb b u w.drew:=⟨h.os,h.tape,h.output,h.size,h.oth⟩
theorem Fb.set{b:Nat}(h:Fb b u w)(o:Nat)(x:Value):Fb b u (w.setCell ⟨b,o,none⟩ x):=
 ⟨h.os,h.tape,h.output,by have:=h.size;simp[World.setCell];omega,fun i hi hn=>(Below.heap_setCell _ _ _ _ hn).trans (h.oth i hi hn)⟩
theorem eG.eq(h:eG mb g w)(e:∀ i,i < 12->g' i=g i):eG mb g' w:=by
 obtain⟨cs,hc,h1⟩:=h;exact⟨cs,hc,fun i hi=>by rw[e i hi];exact h1 i hi⟩
theorem eG.put(h:eG mb g w)(j:Nat):eG mb (fun i=>g i||decide (j=i)) (w.setCell ⟨mb,j,none⟩ (.bool true)):=by
 obtain⟨cs,hc,h1⟩:=h;refine⟨_,aM _ hc,fun i hi=>?_⟩
 by_cases e:j=i
 ·subst e;rw[nX (h1 j hi)];simp
 ·rw[bT e (h1 i hi)];simp[e]
theorem lY:∀ (t:Tr) (s:Nat),s=0\/s=1\/s=3\/s=13\/s=99->Ws s t->∀ i,dR t i=false:=by
 intro t
 induction t with
 |nil=>intro _ _ _ _;rfl
 |node b o a l q ihl ihq=>
  intro s hs hw i;unfold Ws at hw;obtain⟨_,_,hw⟩:=hw;cases hsig:sig s a.tag with
  |none=>rw[hsig]at hw;exact hw.elim
  |some p=>
   obtain⟨x,y⟩:=p;rw[hsig]at hw
   have h0:a.tag≠9/\(x=0\/x=1\/x=3\/x=13\/x=99)/\(y=0\/y=1\/y=3\/y=13\/y=99):=by
    unfold sig at hsig;rcases hs with rfl|rfl|rfl|rfl|rfl<;>simp at hsig
    ·repeat' split at hsig
     all_goals simp at hsig
     all_goals omega
    ·repeat' split at hsig
     all_goals simp at hsig
     all_goals omega
    ·omega
    ·omega
   obtain⟨h1,hx,hy⟩:=h0;unfold dR;rw[if_neg h1,ihl x hx hw.1 i,ihq y hy hw.2 i];rfl
theorem mQ{b o:Nat}{a:Nd}{l q:Tr}{i:Nat}(h:a.tag≠9):dR (.node b o a l q) i=(dR l i||dR q i):=if_neg h
theorem aQ0{b o:Nat}{a:Nd}{l q:Tr}{i:Nat}(h:a.tag=9):dR (.node b o a l q) i=decide (a.which.toNat=i):=if_pos h
def GM(w0:World)(t:Tr):Prop:=∀ mb g w,w0.heap.size<=mb->(∀ i,i < w0.heap.size->w.heap[i]?=w0.heap[i]?)->eG mb g w->
 Calls Tryz.prog 316 #[.pointer (some ⟨mb,0,none⟩),aC t] w fun e w'=>e= .returned (.tuple #[])/\eG mb (fun i=>g i||dR t i) w'/\Fb mb w w'
def GMs(w0:World):Tr->Prop
 | .nil=>True
 | .node _ _ a _ q=>(a.tag=9->0<=a.which/\a.which < 12)/\(a.tag=11->∃ x y z p r,q= .node x y z p r/\z.tag=18/\Ws 4 p/\Ws 4 r/\GM w0 p/\GM w0 r)/\(a.tag=12->Ws 4 q/\GM w0 q)
theorem aE7{t:Tr}(k6:Ws 4 t)(hi:IsT w0 t)(hA:fE (fun e=>Ws 2 e/\GMs w0 e) (aB t)):GM w0 t:=by
 intro mb g w y5 k2 hB;obtain⟨ao,cp,z2⟩:=k6.lstval (.inr (.inl rfl));have hlen:=fB (.inr (.inl rfl)) k6
 have z4:∀ i,dR t i=dR (aB t) i:=fun i=>by
  rcases k6.lst (.inr (.inl rfl))with rfl|⟨b,o,a,l,rfl,ht,_⟩
  ·rfl
  ·rw[mQ (by omega)];show(dR l i||false)=_;rw[Bool.or_false];rfl
 rw[z2];obtain⟨T,hT⟩:∃ T:Nat->Bool,T=fun i=>g i||dR t i:=⟨_,rfl⟩;rw[<-hT];have z9:Hid (Ws 4 t):=k6;have HI:Hid (IsT w0 t):=hi;have L0:∃ G:Nat->Bool,(∀ i,T i=(G i||dR (aL 0 (aB t)) i))/\eG mb G w/\Fb mb w w:=⟨g,fun i=>by rw[hT];show(_||_)=_;rw[z4];rfl,hB,Fb.refl _ _⟩;have y9:Hid (∀ i,i < w0.heap.size->w.heap[i]?=w0.heap[i]?):=k2
 have j0:Hid (w0.heap.size<=w.heap.size):=by
  rcases Nat.lt_or_ge w.heap.size w0.heap.size with h|h
  ·have:=k2 w.heap.size h;rw[Array.getElem?_eq_none (Nat.le_refl _),Array.getElem?_eq_getElem h]at this;cases this
  ·exact h
 clear k6 hi hT z4 hB k2;go_enter Tryz.func316,Tryz.ntmps316
 go_wp2_with fail
 go_loopg [11] (aD t) (fun m v wr=>∃ i:Nat,v= .int .i64 i/\i<=aD t/\aD t<=i+m/\∃ G:Nat->Bool,(∀ j,T j=(G j||dR (aL i (aB t)) j))/\eG mb G wr/\Fb mb w wr)
 case atStart=>exact⟨0,rfl,Nat.zero_le _,by omega,L0⟩
 case round=>
  clear L0;obtain⟨i,rfl,hle,hm,G,hG,hB,hx⟩:=hrel
  by_cases z6:i < aD t
  ·have y6:(i:Int) < (aD t:Int):=by omega
   obtain⟨b2,o2,a2,e2,r2,hd,y0⟩:=dK i (aB t) (by rw[<-aT];exact z6);have y8:=fE.drop i _ hA;rw[hd]at y8
   have hG:∀ j,T j=(G j||(dR e2 j||dR r2 j)):=fun j=>by
    obtain⟨y2,_⟩:=y8;rw[hG j,hd,mQ (by omega)]
   obtain⟨y2,⟨hE,hS⟩,_⟩:=y8;have h7:∀ W,Fb mb w W->∀ k,k < w0.heap.size->W.heap[k]?=w0.heap[k]?:=fun W hW k hk=>(hW.oth k (by have:=j0.out;omega) (by omega)).trans (y9.out k hk);have k4:Hid _:=h7;obtain⟨m,rfl⟩:∃ m,gk=m+1:=⟨gk - 1,by omega⟩
   have FIN:Hid (∀ W G',(∀ j,j < 12->G' j=(G j||dR e2 j))->eG mb G' W->Fb mb w W->∃ i':Nat,Value.int .i64 ((i:Int)+1)= .int .i64 i'/\i'<=aD t/\aD t<=i'+m/\∃ G:Nat->Bool,(∀ j,T j=(G j||dR (aL i' (aB t)) j))/\eG mb G W/\Fb mb w W):=fun W G' e hB hx=>
    ⟨i+1,by simp,by omega,by omega,fun j=>G j||dR e2 j,fun j=>by rw[hG j,y0,Bool.or_assoc],hB.eq fun j hj=>(e j hj).symm,hx⟩
   cases e2 with
   |nil=>exact absurd hE (by unfold Ws bK;omega)
   |node b o a l q=>
    have h9:=jR hE;obtain⟨gg,rfl,h5⟩:=gQ (H:=0) (.inr (.inl rfl)) z9.out HI.out (Fr.refl 0 F0 w0) F0.body z2 hd ⟨b,o,a,l,q,rfl,by omega,by omega⟩;have h6:aC (.node b o a l q)= .iface (bZ a.tag) (.pointer (some ⟨b,0,none⟩)):=if_neg (by omega);rw[h6]at h5;have h5:=aE (h7 wr hx) h5
    have k8:IsT w0 (.node b o a l q):=by
     have h1:IsT w0 (aB t):=by
      cases t with
      |nil=>trivial
      |node=>exact HI.out.1
     have h2:=nQ i _ h1;rw[hd]at h2;exact h2.1
    obtain⟨s9,s11,s12⟩:=hS;obtain⟨_,sx,sy,h3,h8,k1⟩:=hE.parts;have own:=k8.2.2;have ta9:=kG (bZ a.tag) (.pointer (some ⟨b,0,none⟩)) wr;have ta11:=pB (bZ a.tag) (.pointer (some ⟨b,0,none⟩)) wr;have ta12:=iG (bZ a.tag) (.pointer (some ⟨b,0,none⟩)) wr;have HX:Hid (Fb mb w wr):=hx;have HB:Hid (eG mb G wr):=hB
    by_cases k9:a.tag=9
    ·obtain⟨j,hj⟩:∃ j:Nat,a.which=j:=⟨a.which.toNat,by have:=s9 k9;omega⟩;have y7:j < 12:=by have:=s9 k9;omega
     have hjI:0<=(j:Int)/\(j:Int) < 12:=by omega
     have m0:w0.cell? ⟨b,2,none⟩=some (.int .i64 (j:Int)):=by
      obtain⟨cs,hc,hn,_⟩:=aI own (n:=9) k9;rw[cell_of_row _ _ _ _ _ _ hc,<-hj];exact hn.2.2
     have c0:=aE (h7 wr hx) m0;have hset:=hB.at_ y7
     have hfz:∀ o,wr.frozen? ⟨mb,o,none⟩=false:=by
      obtain⟨cs,hc,_⟩:=hB;intro o;simp[World.frozen?,hc]
     have fin:=FIN.out ((wr.setCell ⟨mb,j,none⟩ (.bool true)).drew) _ (fun i _=>by rw[aQ0 k9,hj,Int.toNat_natCast]) (hB.put j) (hx.set j _).drew;rw[show bZ a.tag=326 by rw[k9];rfl]at ta9 ta11 ta12 h5;clear s9 s11 s12 h3 h8 k1 own k8 hE hd y0 h6 h9 k9 hG h7 hB hx hj m0 y2 FIN HX HB k4 hA;go_upto_region 6 with fail
     go_region
     all_goals go_wp2
     all_goals go_roundg m
     case rel=>exact fin
     case measure=>omega
    by_cases k11:a.tag=11
    ·obtain⟨x,y,z,p,r,rfl,hz,wp,wr',gp,gr⟩:=s11 k11;obtain⟨ap,cpp,z1⟩:=wp.lstval (.inr (.inl rfl));obtain⟨ar,cpr,y4⟩:=wr'.lstval (.inr (.inl rfl))
     have k7:∀ j,dR l j=false:=by
      rw[k11]at h3;cases h3;exact lY l 1 (.inr (.inl rfl)) h8
     have h4:∀ j,dR (.node b o a l (.node x y z p r)) j=(dR p j||dR r j):=fun j=>by
      rw[mQ (by omega),k7 j,mQ (by omega),Bool.false_or]
     obtain⟨m1,m2⟩:w0.cell? ⟨b,1,none⟩=some (aC p)/\w0.cell? ⟨b,2,none⟩=some (aC r):=by
      obtain⟨cs,hc,h0,x',y',z',p',r',e,h1,h2⟩:=aI own (n:=11) k11;cases e;exact⟨by rw[cell_of_row _ _ _ _ _ _ hc];exact h1,by rw[cell_of_row _ _ _ _ _ _ hc];exact h2⟩
     have k3:=gp mb G wr y5 (h7 wr hx) hB;rw[z1]at m1 k3;rw[y4]at m2;have j1:Hid _:=m2;have c1:=aE (h7 wr hx) m1
     have j2:Hid (∀ W G',Fb mb w W->eG mb G' W->Calls Tryz.prog 316 #[.pointer (some ⟨mb,0,none⟩),.slice ar (aD r) cpr] W fun e w'=>e= .returned (.tuple #[])/\eG mb (fun i=>G' i||dR r i) w'/\Fb mb W w'):=fun W G' hW z7=>by
      have:=gr mb G' W y5 (k4.out W hW) z7;rw[y4]at this;exact this
     have y3:Hid _:=h4;rw[show bZ a.tag=332 by rw[k11];rfl]at ta9 ta11 ta12 h5;clear s9 s11 s12 h3 h8 k1 own k8 hE hd y0 h6 h9 k9 hG h7 hB hx m1 m2 y2 hA k11 wp wr' gp gr z1 y4 k7 h4 hz;go_wp2_with fail
     refine k3.mono ?_;rintro e W2 ⟨rfl,y1,k5⟩;have k0:=HX.out.trans k5;have z3:=j2.out W2 _ k0 y1;have c2:=aE (k4.out W2 k0) j1.out;have z8:Hid _:=k0;clear y1 k5 k0 k3 c1;go_wp2_with fail
     refine z3.mono ?_;rintro e W3 ⟨rfl,z5,k0⟩;have fin:=FIN.out W3 _ (fun j _=>by rw[y3.out j,Bool.or_assoc]) z5 (z8.out.trans k0);clear z5 k0 z3 c2 FIN y3 HX HB k4;go_wp2;go_roundg m
     case rel=>exact fin
     case measure=>omega
    by_cases k12:a.tag=12
    ·obtain⟨wq,gq⟩:=s12 k12;obtain⟨aq,cpq,z0⟩:=wq.lstval (.inr (.inl rfl))
     have k7:∀ j,dR l j=false:=by
      rw[k12]at h3;cases h3;exact lY l 1 (.inr (.inl rfl)) h8
     have h4:∀ j,dR (.node b o a l q) j=dR q j:=fun j=>by
      rw[mQ (by omega),k7 j,Bool.false_or]
     have m1:w0.cell? ⟨b,1,none⟩=some (aC q):=by
      obtain⟨cs,hc,h0,h1⟩:=aI own (n:=12) k12;rw[cell_of_row _ _ _ _ _ _ hc];exact h1
     have k3:=gq mb G wr y5 (h7 wr hx) hB;rw[z0]at m1 k3;have c1:=aE (h7 wr hx) m1;have y3:Hid _:=h4;rw[show bZ a.tag=338 by rw[k12];rfl]at ta9 ta11 ta12 h5;clear s9 s11 s12 h3 h8 k1 own k8 hE hd y0 h6 h9 k9 hG h7 hB hx m1 y2 hA k11 k12 wq gq z0 k7 h4;go_wp2_with fail
     refine k3.mono ?_;rintro e W2 ⟨rfl,y1,k5⟩;have fin:=FIN.out W2 _ (fun j _=>by rw[y3.out j]) y1 (HX.out.trans k5);clear y1 k5 k3 c1 FIN y3 HX HB k4;go_wp2;go_roundg m
     case rel=>exact fin
     case measure=>omega
    have tags:a.tag=10\/a.tag=13\/a.tag=14:=by omega
    have h4:∀ j,dR (.node b o a l q) j=false:=fun j=>by
     rw[mQ k9];rcases tags with k|k|k
     ·rw[k]at h3;cases h3;rw[lY l 0 (.inl rfl) h8,lY q 0 (.inl rfl) k1];rfl
     ·rw[k]at h3;cases h3;rw[lY l 0 (.inl rfl) h8,lY q 99 (by omega) k1];rfl
     ·rw[k]at h3;cases h3;rw[lY l 0 (.inl rfl) h8,lY q 99 (by omega) k1];rfl
    have fin:=FIN.out wr G (fun j _=>by rw[h4 j,Bool.or_false]) hB hx;have n9:bZ a.tag≠326:=by rcases tags with k|k|k<;>rw[k]<;>decide
    have n11:bZ a.tag≠332:=by rcases tags with k|k|k<;>rw[k]<;>decide
    have n12:bZ a.tag≠338:=by rcases tags with k|k|k<;>rw[k]<;>decide
    rw[if_neg n9,decide_eq_false n9]at ta9;rw[if_neg n11,decide_eq_false n11]at ta11;rw[if_neg n12,decide_eq_false n12]at ta12;generalize bZ a.tag=ty at*;clear s9 s11 s12 h3 h8 k1 own k8 hE hd y0 h6 h9 k9 hG h7 hB hx y2 hA k11 k12 h4 tags n9 n11 n12 FIN HX HB k4;go_wp2;go_roundg m
    case rel=>exact fin
    case measure=>omega
  ·have y6: ¬(i:Int) < (aD t:Int):=by omega
   have FW:Hid (eG mb T wr/\Fb mb w wr):=by
    refine⟨hB.eq fun j _=>?_,hx⟩;rw[hG j,show i=aO (aB t)by rw[<-aT];omega,eS];exact Bool.or_false _
   clear hB hx hG hA;go_wp2;go_end0
   exact⟨rfl,FW.out⟩
end Go.Proofs.YtikffmloeifkpaaGreatDoor
namespace Go.Proofs.YtikffmloeifkpaaGreatDoor
open Go.RowKit Go.Lib Go.Deep Go.Maps Go.ChangeMaps Go.MapKept
variable {w0:World} {pb lb kb vb xb nw nw' c c':Nat} {vS:Value} {K K':Kn} {S:Sl} {F F':Fl} {alive:Bool} {vs:Vr} {u w w':World} {m:Bool} {al fl:List Tr} {lens:Nat->Int}
def pO(w0:World)(pb lb kb:Nat)(vS:Value)(S:Sl)(p:Int)(nw c:Nat)(K:Kn)(X:St × Fl)(w:World):Ending->World->Prop:=fun e w'=>
 e= .returned (.tuple #[])/\∃ (nw':Nat) (K':Kn),nw<=nw'/\SkW w0 pb lb kb vS S X.2 nw' c K' w'/\K' p=X.1/\(∀ q:Int,q≠p->q<=(nw:Int)->K' q=K q)/\Fu w0.heap.size w w'
def GSk(f:Nat)(w0:World)(pb:Nat)(vS:Value)(S:Sl)(al fl:List Tr)(val:Tr->Value)(t:Tr):Prop:=
 ∀ (lb kb:Nat) (F:Fl) (nw c:Nat) (K:Kn) (p:Int) (w:World),0<=p/\p<=(nw:Int)->c+2*mu t<=4611686018427387904->SkW w0 pb lb kb vS S F nw c K w->
  Calls Tryz.prog f #[.pointer (some ⟨lb,0,none⟩),.int .i64 p,val t] w (pO w0 pb lb kb vS S p nw (c+2*mu t) K (stA (aA al) fl t (K p) F) w)
theorem aQF{t:Tr}(h:Ws 4 t):mu t=mu (aB t):=by
 rcases h.lst (.inr (.inl rfl))with rfl|⟨b,o,a,l,rfl,ht,_⟩
 ·rfl
 ·conv=>lhs;unfold mu
  rw[if_neg (by omega),if_neg (by omega)];show 0+mu l+0=mu l;omega
theorem aU1{b o:Nat}{a:Nd}{e q:Tr}(h:a.tag=15):mu (.node b o a e q)=mu e+mu q:=by
 conv=>lhs;unfold mu
 rw[if_neg (by omega),if_neg (by omega)];omega
theorem aM3{t:Tr}{s:St}(h:Ws 4 t):stA lens fl t s F=stA lens fl (aB t) s F:=by
 rcases h.lst (.inr (.inl rfl))with rfl|⟨b,o,a,l,rfl,ht,_⟩
 ·rfl
 ·rw[qT (.inl ht)];rfl
structure LpK(w0:World)(pb lb kb:Nat)(vS:Value)(S:Sl)(al fl:List Tr)(p:Int)(nw c:Nat)(K:Kn)(T:St × Fl)(L:Tr)(w:World)(nw1 c1:Nat)(K1:Kn)(F1:Fl)(wr:World):Prop where
 res:T=stA (aA al) fl L (K1 p) F1
 sk:SkW w0 pb lb kb vS S F1 nw1 c1 K1 wr
 ge:nw<=nw1
 cs:c1+2*mu L=c
 oth:∀ q:Int,q≠p->q<=(nw:Int)->K1 q=K q
 fu:Fu w0.heap.size w wr
theorem aI7{t:Tr}(h8:Ws 4 t)(hi:IsT w0 t)(hA:fE (fun e=>Ws 2 e/\GSk 207 w0 pb vS S al fl aC e) (aB t)):GSk 136 w0 pb vS S al fl aC t:=by
 intro lb kb F nw c K p w hp hc h;obtain⟨ao,cp,k5⟩:=h8.lstval (.inr (.inl rfl));have hlen:=fB (.inr (.inl rfl)) h8;rw[aM3 h8,k5];rw[aQF h8]at hc ⊢;obtain⟨T,hT⟩:∃ T,T=stA (aA al) fl (aB t) (K p) F:=⟨_,rfl⟩;rw[<-hT];obtain⟨C,hC⟩:∃ C,C=c+2*mu (aB t):=⟨_,rfl⟩;rw[<-hC]at hc ⊢;have y0:Hid (Ws 4 t):=h8;have HI:Hid (IsT w0 t):=hi;have L0:∃ nw1 c1 K1 F1,LpK w0 pb lb kb vS S al fl p nw C K T (aL 0 (aB t)) w nw1 c1 K1 F1 w:=⟨nw,c,K,F,hT,h,Nat.le_refl _,hC.symm,fun _ _ _=>rfl,Fu.refl _ _⟩;clear h8 hi hT hC h;go_enter Tryz.func136,Tryz.ntmps136
 go_wp2_with fail
 go_loopg [10] (aD t) (fun m v wr=>∃ i:Nat,v= .int .i64 i/\i<=aD t/\aD t<=i+m/\∃ nw1 c1 K1 F1,LpK w0 pb lb kb vS S al fl p nw C K T (aL i (aB t)) w nw1 c1 K1 F1 wr)
 case atStart=>exact⟨0,rfl,Nat.zero_le _,by omega,L0⟩
 case round=>
  clear L0;obtain⟨i,rfl,hle,hm,nw1,c1,K1,F1,LP⟩:=hrel
  by_cases k9:i < aD t
  ·have k1:(i:Int) < (aD t:Int):=by omega
   obtain⟨b2,o2,a2,e2,r2,hd,k6⟩:=dK i (aB t) (by rw[<-aT];exact k9);have k7:=fE.drop i _ hA;rw[hd]at k7;obtain⟨k2,⟨hE,hG⟩,_⟩:=k7
   obtain⟨gg,rfl,h0⟩:=gQ (H:=0) (.inr (.inl rfl)) y0.out HI.out (Fr.refl 0 F0 w0) F0.body k5 hd (by
    cases e2 with
    |nil=>exact absurd hE (by unfold Ws bK;omega)
    |node b o a l r=>
     have:=jR hE;exact⟨b,o,a,l,r,rfl,by omega,by omega⟩)
   obtain⟨u,p',k0⟩:=hE.val (.inr (.inr (.inl rfl)));rw[k0]at h0;have h0:=aE LP.sk.low h0;have h9:=LP.cs;have h7:=LP.res;rw[hd,aU1 k2]at h9;rw[hd,sY k2]at h7;have hnw:=LP.ge;have h6:=hG lb kb F1 nw1 c1 K1 p wr (by omega) (by omega) LP.sk;rw[k0]at h6;have k8:Hid _:=h7;have k3:Hid _:=LP;have k4:Hid (aL (i+1) (aB t)=r2):=k6;generalize stA (aA al) fl e2 (K1 p) F1=y at*;clear h7 LP hd k6 hE hG k2 k0 hA;go_wp2_with fail
   refine h6.mono ?_;rintro e W ⟨rfl,nw2,K2,h1,h2,h3,h4,h5⟩;obtain⟨m,rfl⟩:∃ m,gk=m+1:=⟨gk - 1,by omega⟩
   have fin:∃ i':Nat,Value.int .i64 ((i:Int)+1)= .int .i64 i'/\i'<=aD t/\aD t<=i'+m/\∃ nw1 c1 K1 F1,LpK w0 pb lb kb vS S al fl p nw C K T (aL i' (aB t)) w nw1 c1 K1 F1 W:=
    ⟨i+1,by simp,by omega,by omega,nw2,c1+2*mu e2,K2,y.2,by rw[k4.out,h3];exact k8.out,h2,by omega,by rw[k4.out];omega,fun q hq hl=>(h4 q hq (by omega)).trans (k3.out.oth q hq hl),k3.out.fu.trans h5⟩
   clear h1 h2 h3 h4 h5 k3 k8 k4 h6 h0;go_wp2;go_roundg m
   case rel=>exact fin
   case measure=>omega
  ·have k1: ¬(i:Int) < (aD t:Int):=by omega
   have FIN:Hid (pO w0 pb lb kb vS S p nw C K T w (.returned (.tuple #[])) wr):=by
    have e:aL i (aB t)= .nil:=by rw[show i=aO (aB t)by rw[<-aT];omega,eS]
    have h9:=LP.cs;have h7:=LP.res;rw[e]at h9 h7;have h7:T=(K1 p,F1):=h7;have h9:c1=C:=by have:mu (.nil:Tr)=0:=rfl;omega
    subst h9;rw[h7];exact⟨rfl,nw1,K1,LP.ge,LP.sk,rfl,LP.oth,LP.fu⟩
   clear LP hA;go_wp2;go_end0
   exact FIN.out
end Go.Proofs.YtikffmloeifkpaaGreatDoor
namespace Go.Proofs.YtikffmloeifkpaaGreatDoor
open Go.RowKit Go.Lib Go.Deep Go.Maps Go.ChangeMaps Go.MapKept
variable {w0:World} {pb lb kb vb xb nw nw' c c':Nat} {vS:Value} {K K':Kn} {S:Sl} {F F':Fl} {alive:Bool} {vs:Vr} {u w w':World} {m:Bool} {al fl:List Tr} {lens:Nat->Int}
theorem SkW.viewE(h:SkW w0 pb lb kb vS S F nw c K w){E:Int->Option Nat}(hE:LkE w0.heap.size lb pb kb vS nw c K E w)(p:Int)(hp:0<=p/\p<=9223372036854775807):
 Calls Tryz.prog 202 #[.pointer (some ⟨lb,0,none⟩),.int .i64 p] w fun e w'=>∃ xb,e= .returned (.agg #[.pointer (some ⟨lb,0,none⟩),.pointer (some ⟨xb,0,none⟩),.bool (K p).isSome])/\Below w.heap.size w w'/\(K p≠none->E p=some xb)/\(K p=none->w.heap.size<=xb)/\w0.heap.size<=xb/\xb < w'.heap.size/\
  ∀ w2:World,Below w'.heap.size w' w2->∀ vb,w2.heap[vb]?=some (.cells #[.pointer (some ⟨lb,0,none⟩),.pointer (some ⟨xb,0,none⟩),.bool (K p).isSome] 349 (0,0))->VC w0 pb lb vb xb vS S F (K p).isSome (cC (K p)) w2:=by
 refine(aLD hE p hp).mono ?_;rintro e W ⟨xb,rfl,k1,k2,hv,hb⟩;have hz:=h.size;have h0:xb < W.heap.size:=by obtain⟨cs,hc,_⟩:=hv;exact(Array.getElem?_eq_some_iff.1 hc).1
 refine⟨xb,rfl,hb,k1,k2,?_,h0,fun w2 h2 vb h1=>?_⟩
 ·by_cases hk:K p=none
  ·have:=k2 hk;omega
  ·obtain⟨_,_,hH,_⟩:=hE.block (k1 hk);exact hH
 have s2:SkW w0 pb lb kb vS S F nw c K w2:=(h.new hb).new h2;obtain⟨E2,h3⟩:=s2.lk;exact⟨⟨h1,⟨_,_,h3.blk⟩,hv.same (h2.block _ h0),s2.fl,s2.size⟩,s2.low,(h.ok p).vs⟩
theorem aT0{k b n i j:Nat}{x y v:Value}(h:w.cell? ⟨b,n,none⟩=some v)(hn:b≠k):((w.setCell ⟨k,i,none⟩ x).setCell ⟨k,j,none⟩ y).cell? ⟨b,n,none⟩=some v:=
 (World.cell?_of_block ((Below.heap_setCell _ _ _ _ hn).trans (Below.heap_setCell _ _ _ _ hn))).trans h
theorem SkW.same(h:SkW w0 pb lb kb vS S F nw c K w)(e:K'=K):SkW w0 pb lb kb vS S F nw c K' w:=by rw[e];exact h
theorem aPR{b o:Nat}{a:Nd}{l q:Tr}(ht:a.tag=9)(y0:0<=a.which/\a.which < 12)(hi:IsT w0 (.node b o a l q))(hl:Ws 0 l/\GV 260 w0 pb vS S al fl aC l):GSk 207 w0 pb vS S al fl aC (.node b o a l q):=by
 intro lb kb F nw c K p w hp hc h;have h0:aC (.node b o a l q)= .iface 326 (.pointer (some ⟨b,0,none⟩)):=(if_neg (by omega)).trans (by rw[ht];rfl);rw[h0];obtain⟨h7,k4⟩:=hl;obtain⟨ul,pl,h8⟩:=h7.val (.inl rfl);obtain⟨j,hj⟩:∃ j:Nat,a.which=j:=⟨a.which.toNat,by omega⟩;have hjI:0<=(j:Int)/\(j:Int) < 12:=by omega
 obtain⟨m2,m3⟩:w0.cell? ⟨b,2,none⟩=some (.int .i64 (j:Int))/\w0.cell? ⟨b,3,none⟩=some (aC l):=by
  obtain⟨cs,h5,h1,h2,h3⟩:=aI hi.2.2 (n:=9) ht;exact⟨by rw[cell_of_row _ _ _ _ _ _ h5,<-hj];exact h1.2.2,by rw[cell_of_row _ _ _ _ _ _ h5];exact h2⟩
 rw[h8]at m3;rw[yF ht,hj,Int.toNat_natCast];generalize mu (.node b o a l q)=M at*;obtain⟨E,hE⟩:=h.lk;have hfew:=h.few;have y2:0<=p/\p<=9223372036854775807:=by omega
 have hv:=h.viewE hE p y2;have h6:=h.size;have HS:Hid (SkW w0 pb lb kb vS S F nw c K w):=h;have HE:Hid (LkE w0.heap.size lb pb kb vS nw c K E w):=hE;have okR:=(wK (lens:=aA al) (fl:=fl) (alive:=(K p).isSome) (h.ok p).vs l 0 F h7).hd
 have y5:Hid (∀ vb xb w2,VC w0 pb lb vb xb vS S F (K p).isSome (cC (K p)) w2->Calls Tryz.prog 260 #[.pointer (some ⟨vb,0,none⟩),.iface ul (.pointer (some pl))] w2 (xI w0.heap.size vS S (hdR (exA (aA al) fl (K p).isSome (cC (K p)) l F).1) (exA (aA al) fl (K p).isSome (cC (K p)) l F).2 w2)):=fun vb xb w2 h2=>by
  have:=k4 lb vb xb F _ _ w2 h2;rw[h8]at this;exact this
 generalize exA (aA al) fl (K p).isSome (cC (K p)) l F=x at*;obtain⟨xl,F4⟩:=x;dsimp only at*;generalize hdR xl=R at*;have k0:Hid _:=m2;have k7:Hid _:=m3;have ta9:=fun u v=>kG u v w;have ta10:=fun u v=>gN u v w;have ta11:=fun u v=>pB u v w;have ta12:=fun u v=>iG u v w;have ta13:=fun u v=>iL u v w;have ta14:=fun u v=>pR u v w;obtain⟨X,hX⟩:∃ X:St × Fl,X=((K p).map fun vs=>oT vs j R,F4):=⟨_,rfl⟩;rw[<-hX];have HX:Hid (X=((K p).map fun vs=>oT vs j R,F4)):=hX;have h4:j < 12:=by omega
 have HR:Hid (bV R):=okR;clear hX okR h hE k4 h8 h7 hi h0 y0 hj ht m2 m3;go_enter Tryz.func207,Tryz.ntmps207
 go_wp2_with fail
 refine hv.mono ?_;rintro e W ⟨xb,rfl,hb,k9,k8,hx3,hx4,k2⟩;clear hv;obtain⟨o1,h9⟩:∃ o1:Obj,o1= .cells #[.pointer (some ⟨lb,0,none⟩),.pointer (some ⟨xb,0,none⟩),.bool (K p).isSome] 349:=⟨_,rfl⟩;obtain⟨kB,bB,zB⟩:=qN W o1;have kB':Hid ((W.alloc o1).heap[W.heap.size]?=some (.cells #[.pointer (some ⟨lb,0,none⟩),.pointer (some ⟨xb,0,none⟩),.bool (K p).isSome] 349 (0,0))):=by rw[Hid,kB,h9]
 have V3:=k2 _ bB W.heap.size kB'.out;have F3:Hid (Fs w0.heap.size false w (W.alloc o1)):=(Fs.of hb HS.out.size false).trans (Fs.of bB (HS.out.new hb).size false);have k6:Hid (VC w0 pb lb W.heap.size xb vS S F (K p).isSome (cC (K p)) (W.alloc o1)):=V3;have k5:=y5.out _ _ _ V3.drew;have c2:=aE V3.low k0.out;have c3:=aE V3.low k7.out;obtain⟨v0,v1,v2,_⟩:=aG V3.vw.view;have y3:W.heap.size≠xb:=by omega
 have k3:b≠xb:=fun e=>by
  have h1:b < w0.heap.size:=World.block_lt_of_cell? _ _ k0.out;omega
 clear V3 kB bB hb k2 zB;go_upto_region 4 with fail
 rw[<-h9];clear h9;generalize W.alloc o1=W1 at*
 go_region_held3 (fun w'=>w'.cell? ⟨W.heap.size,1,none⟩=some (.pointer (some ⟨xb,0,none⟩))/\w'.cell? ⟨b,2,none⟩=some (.int .i64 (j:Int))/\w'.cell? ⟨b,3,none⟩=some (.iface ul (.pointer (some pl))))
  (first
    |(refine⟨?_,?_,?_⟩<;>assumption)
    |exact⟨aT0 kn1 y3,aT0 d2 k3,aT0 d3 k3⟩
    |go_keep)
  ((go_at_call 260;refine k5.mono ?_;rintro e W3 ⟨rfl,f3,x3⟩;rw[aS];have V4:=k6.out.drew.next x3 f3;obtain⟨kn0,kn1,kn2,_⟩:=aG V4.vw.view;obtain⟨kc0,kc1⟩:=V4.vw.vars.cells.1 j h4;have kf:=V4.vw.vars.cells.2;have d2:=aE V4.low k0.out;have d3:=aE V4.low k7.out))
 have FIN:Hid (pO w0 pb lb kb vS S p nw (c+2*M) K X w (.returned (.tuple #[])) ((W3.setCell ⟨xb,j*2,none⟩ (.int .i64 R.1)).setCell ⟨xb,j*2+1,none⟩ (.int .i64 R.2))):=by
  have x4:Fs w0.heap.size false w W3:=F3.out.drew.trans x3;have hL:LkE w0.heap.size lb pb kb vS nw c K E W3:=HE.out.fs x4;have S3:SkW w0 pb lb kb vS S F4 nw c K W3:=HS.out.next x4 f3;cases hK:K p with
  |none=>
   have k1:=k8 hK;have y1:=V4.vw.vars;obtain⟨cs,h5,_⟩:=y1;have x5:Fs w0.heap.size false w ((W3.setCell ⟨xb,j*2,none⟩ (.int .i64 R.1)).setCell ⟨xb,j*2+1,none⟩ (.int .i64 R.2)):=(x4.setNew h6 k1 _ _).setNew h6 k1 _ _;have f5:FlW w0.heap.size vS S F4 ((W3.setCell ⟨xb,j*2,none⟩ (.int .i64 R.1)).setCell ⟨xb,j*2+1,none⟩ (.int .i64 R.2)):=(f3.setOther h5 (by decide) _ _).setOther (aM _ h5) (by decide) _ _;refine⟨rfl,nw,K,Nat.le_refl _,?_,?_,fun _ _ _=>rfl,x5.both⟩
   ·rw[HX.out];exact(HS.out.next x5 f5).mono (by omega) hc
   ·rw[HX.out,hK];rfl
  |some vs=>
   have y4:=k9 (by rw[hK];exact fun h=>by cases h);obtain⟨l5,x5⟩:=hL.put y4 hK h4 R;have S5:=S3.step x5 ⟨E,l5⟩ (eW S3.ok (OkS.upd (HS.out.ok p vs hK) j HR.out) p);refine⟨rfl,nw,bI K p (some (oT vs j R)),Nat.le_refl _,?_,?_,fun q hq _=>cE hq,x4.both.trans x5.both⟩
   ·rw[HX.out];exact S5.mono (by omega) hc
   ·rw[HX.out,hK,bU];rfl
 clear f3 x3 V4 kn0 kn1 kn2 kc0 kc1 kf d2 d3 k5 c2 c3 v0 v1 v2 HE HS HX F3 k6 kB';go_wp2;go_end0
 exact FIN.out
theorem aLP{b o:Nat}{a:Nd}{l q:Tr}(ht:a.tag=13)(hi:IsT w0 (.node b o a l q))(hl:Ws 0 l/\GV 260 w0 pb vS S al fl aC l):GSk 207 w0 pb vS S al fl aC (.node b o a l q):=by
 intro lb kb F nw c K p w hp hc h;have h0:aC (.node b o a l q)= .iface 341 (.pointer (some ⟨b,0,none⟩)):=(if_neg (by omega)).trans (by rw[ht];rfl);rw[h0];obtain⟨h5,h8⟩:=hl;obtain⟨ul,pl,h1⟩:=h5.val (.inl rfl)
 have m3:w0.cell? ⟨b,0,none⟩=some (aC l):=by
  obtain⟨cs,k5,h2⟩:=aI hi.2.2 (n:=13) ht;rw[cell_of_row _ _ _ _ _ _ k5];exact h2
 rw[h1]at m3;rw[aUU ht];generalize mu (.node b o a l q)=M at*;obtain⟨E,hE⟩:=h.lk;have hfew:=h.few;have h7:0<=p/\p<=9223372036854775807:=by omega
 have hv:=h.viewE hE p h7;have hLow:=h.size;have HS:Hid (SkW w0 pb lb kb vS S F nw c K w):=h;have HE:Hid (LkE w0.heap.size lb pb kb vS nw c K E w):=hE
 have k7:Hid (∀ vb xb w2,VC w0 pb lb vb xb vS S F (K p).isSome (cC (K p)) w2->Calls Tryz.prog 260 #[.pointer (some ⟨vb,0,none⟩),.iface ul (.pointer (some pl))] w2 (xI w0.heap.size vS S (hdR (exA (aA al) fl (K p).isSome (cC (K p)) l F).1) (exA (aA al) fl (K p).isSome (cC (K p)) l F).2 w2)):=fun vb xb w2 h2=>by
  have:=h8 lb vb xb F _ _ w2 h2;rw[h1]at this;exact this
 generalize exA (aA al) fl (K p).isSome (cC (K p)) l F=x at*;obtain⟨xl,F4⟩:=x;dsimp only at*;generalize hdR xl=R at*;have k6:Hid _:=m3;have ta9:=fun u v=>kG u v w;have ta10:=fun u v=>gN u v w;have ta11:=fun u v=>pB u v w;have ta12:=fun u v=>iG u v w;have ta13:=fun u v=>iL u v w;have ta14:=fun u v=>pR u v w;clear h hE h8 h1 h5 hi h0 ht m3;go_enter Tryz.func207,Tryz.ntmps207
 go_wp2_with fail
 refine hv.mono ?_;rintro e W ⟨xb,rfl,hb,k4,k3,k2,k1,h6⟩;clear hv;obtain⟨o1,h3⟩:∃ o1:Obj,o1= .cells #[.pointer (some ⟨lb,0,none⟩),.pointer (some ⟨xb,0,none⟩),.bool (K p).isSome] 349:=⟨_,rfl⟩;obtain⟨kB,bB,zB⟩:=qN W o1;have kB':Hid ((W.alloc o1).heap[W.heap.size]?=some (.cells #[.pointer (some ⟨lb,0,none⟩),.pointer (some ⟨xb,0,none⟩),.bool (K p).isSome] 349 (0,0))):=by rw[Hid,kB,h3]
 have V3:=h6 _ bB W.heap.size kB'.out;have F3:Hid (Fs w0.heap.size false w (W.alloc o1)):=(Fs.of hb HS.out.size false).trans (Fs.of bB (HS.out.new hb).size false);have HV3:Hid (VC w0 pb lb W.heap.size xb vS S F (K p).isSome (cC (K p)) (W.alloc o1)):=V3;have h9:=k7.out _ _ _ V3;have c3:=aE V3.low k6.out;clear V3 kB bB hb h6 zB k4 k3 k2 k1;go_upto_region 22 with fail
 rw[<-h3];clear h3;generalize W.alloc o1=W1 at*;go_wp2_with fail
 refine h9.mono ?_;rintro e W3 ⟨rfl,f3,x3⟩;have S3:SkW w0 pb lb kb vS S F4 nw c K W3:=HS.out.next (F3.out.trans x3) f3;have k0:Hid _:=S3;have U3:Hid (Fu w0.heap.size w W3):=(F3.out.trans x3).both;have hk:=wG S3.lk p h7;clear f3 x3 h9 c3 S3;go_wp2_with fail
 refine hk.mono ?_;rintro e W4 ⟨rfl,h4,x4⟩;have S4:=k0.out.step x4 h4 (eW k0.out.ok OkS.none p)
 have FIN:Hid (pO w0 pb lb kb vS S p nw (c+2*M) K (none,F4) w (.returned (.tuple #[])) W4):=
  ⟨rfl,nw,_,Nat.le_refl _,S4.mono (by omega) hc,bU _ _ _,fun q hq _=>cE hq,U3.out.trans x4.both⟩
 clear h4 x4 hk S4;go_wp2;go_end0
 exact FIN.out
theorem aLO{b o:Nat}{a:Nd}{l q:Tr}(ht:a.tag=14)(hi:IsT w0 (.node b o a l q))(hl:Ws 0 l/\GV 260 w0 pb vS S al fl aC l):GSk 207 w0 pb vS S al fl aC (.node b o a l q):=by
 intro lb kb F nw c K p w hp hc h;have h0:aC (.node b o a l q)= .iface 344 (.pointer (some ⟨b,0,none⟩)):=(if_neg (by omega)).trans (by rw[ht];rfl);rw[h0];obtain⟨h4,h6⟩:=hl;obtain⟨ul,pl,h1⟩:=h4.val (.inl rfl)
 have m3:w0.cell? ⟨b,0,none⟩=some (aC l):=by
  obtain⟨cs,k3,h2⟩:=aI hi.2.2 (n:=14) ht;rw[cell_of_row _ _ _ _ _ _ k3];exact h2
 rw[h1]at m3;rw[sZ ht];generalize mu (.node b o a l q)=M at*;obtain⟨E,hE⟩:=h.lk;have hfew:=h.few;have k2:0<=p/\p<=9223372036854775807:=by omega
 have hv:=h.viewE hE p k2;have hLow:=h.size;have HS:Hid (SkW w0 pb lb kb vS S F nw c K w):=h;have HE:Hid (LkE w0.heap.size lb pb kb vS nw c K E w):=hE
 have k5:Hid (∀ vb xb w2,VC w0 pb lb vb xb vS S F (K p).isSome (cC (K p)) w2->Calls Tryz.prog 260 #[.pointer (some ⟨vb,0,none⟩),.iface ul (.pointer (some pl))] w2 (xI w0.heap.size vS S (hdR (exA (aA al) fl (K p).isSome (cC (K p)) l F).1) (exA (aA al) fl (K p).isSome (cC (K p)) l F).2 w2)):=fun vb xb w2 h2=>by
  have:=h6 lb vb xb F _ _ w2 h2;rw[h1]at this;exact this
 generalize exA (aA al) fl (K p).isSome (cC (K p)) l F=x at*;obtain⟨xl,F4⟩:=x;dsimp only at*;generalize hdR xl=R at*;have k4:Hid _:=m3;have ta9:=fun u v=>kG u v w;have ta10:=fun u v=>gN u v w;have ta11:=fun u v=>pB u v w;have ta12:=fun u v=>iG u v w;have ta13:=fun u v=>iL u v w;have ta14:=fun u v=>pR u v w;clear h hE h6 h1 h4 hi h0 ht m3;go_enter Tryz.func207,Tryz.ntmps207
 go_wp2_with fail
 refine hv.mono ?_;rintro e W ⟨xb,rfl,hb,k1,k0,h9,h8,h5⟩;clear hv;obtain⟨o1,h3⟩:∃ o1:Obj,o1= .cells #[.pointer (some ⟨lb,0,none⟩),.pointer (some ⟨xb,0,none⟩),.bool (K p).isSome] 349:=⟨_,rfl⟩;obtain⟨kB,bB,zB⟩:=qN W o1;have kB':Hid ((W.alloc o1).heap[W.heap.size]?=some (.cells #[.pointer (some ⟨lb,0,none⟩),.pointer (some ⟨xb,0,none⟩),.bool (K p).isSome] 349 (0,0))):=by rw[Hid,kB,h3]
 have V3:=h5 _ bB W.heap.size kB'.out;have F3:Hid (Fs w0.heap.size false w (W.alloc o1)):=(Fs.of hb HS.out.size false).trans (Fs.of bB (HS.out.new hb).size false);have HV3:Hid (VC w0 pb lb W.heap.size xb vS S F (K p).isSome (cC (K p)) (W.alloc o1)):=V3;have h7:=k5.out _ _ _ V3;have c3:=aE V3.low k4.out;clear V3 kB bB hb h5 zB k1 k0 h9 h8;go_upto_region 27 with fail
 rw[<-h3];clear h3;generalize W.alloc o1=W1 at*;go_wp2_with fail
 refine h7.mono ?_;rintro e W3 ⟨rfl,f3,x3⟩;have S3:SkW w0 pb lb kb vS S F4 nw c K W3:=HS.out.next (F3.out.trans x3) f3;have HS3:Hid _:=S3;have U3:Hid (Fu w0.heap.size w W3):=(F3.out.trans x3).both
 have FIN:Hid (pO w0 pb lb kb vS S p nw (c+2*M) K (K p,F4) w (.returned (.tuple #[])) W3):=
  ⟨rfl,nw,K,Nat.le_refl _,S3.mono (by omega) hc,rfl,fun _ _ _=>rfl,U3.out⟩
 clear f3 x3 h7 c3 S3;go_wp2;go_end0
 exact FIN.out
theorem aLS(k2:PgX pb al fl w0){b o:Nat}{a:Nd}{l q:Tr}(ht:a.tag=10)(hi:IsT w0 (.node b o a l q)){k s:Nat}(hk:a.which=k)(y8:k < al.length)(hs:a.site=s)(y6:s < S.length)(hl:Ws 0 l/\GV 260 w0 pb vS S al fl aC l)(hq:Ws 0 q/\GV 260 w0 pb vS S al fl aC q):GSk 207 w0 pb vS S al fl aC (.node b o a l q):=by
 intro lb kb F nw c K p w hp hc h;have h5:aC (.node b o a l q)= .iface 329 (.pointer (some ⟨b,0,none⟩)):=(if_neg (by omega)).trans (by rw[ht];rfl);rw[h5];obtain⟨h6,k4⟩:=hl;obtain⟨k0,k3⟩:=hq;obtain⟨ul,pl,h8⟩:=h6.val (.inl rfl);obtain⟨uq,pq,h7⟩:=k0.val (.inl rfl)
 obtain⟨m0,m1,m2,m3,m4,m5⟩:w0.cell? ⟨b,0,none⟩=some (.string a.name)/\w0.cell? ⟨b,1,none⟩=some (.int .i64 a.npos)/\w0.cell? ⟨b,2,none⟩=some (.int .i64 (k:Int))/\w0.cell? ⟨b,3,none⟩=some (aC l)/\w0.cell? ⟨b,4,none⟩=some (aC q)/\w0.cell? ⟨b,5,none⟩=some (.int .i64 (s:Int)):=by
  obtain⟨cs,h0,h1,h2,h3,h4⟩:=aI hi.2.2 (n:=10) ht;rw[<-hk,<-hs];exact⟨by rw[cell_of_row _ _ _ _ _ _ h0];exact h1.1,by rw[cell_of_row _ _ _ _ _ _ h0];exact h1.2.1,by rw[cell_of_row _ _ _ _ _ _ h0];exact h1.2.2,by rw[cell_of_row _ _ _ _ _ _ h0];exact h2,by rw[cell_of_row _ _ _ _ _ _ h0];exact h3,by rw[cell_of_row _ _ _ _ _ _ h0];exact h4⟩
 rw[h8]at m3;rw[h7]at m4;rw[tD ht,hk,hs,Int.toNat_natCast];generalize mu (.node b o a l q)=M at*;obtain⟨E,hE⟩:=h.lk;have hfew:=h.few;have y7:0<=p/\p<=9223372036854775807:=by omega
 have hv:=h.viewE hE p y7;have hLow:=h.size;have HS:Hid (SkW w0 pb lb kb vS S F nw c K w):=h;have HE:Hid (LkE w0.heap.size lb pb kb vS nw c K E w):=hE
 have z1:Hid (∀ vb xb w2,VC w0 pb lb vb xb vS S F (K p).isSome (cC (K p)) w2->Calls Tryz.prog 268 #[.pointer (some ⟨vb,0,none⟩),.agg #[.string a.name,.int .i64 a.npos,.int .i64 (k:Int)],.iface ul (.pointer (some pl)),.int .i64 (s:Int)] w2 fun e w'=>e= .returned (.tuple #[])/\
  FlW w0.heap.size vS S (iD (exA (aA al) fl (K p).isSome (cC (K p)) l F).2 s ((decide (0<=(hdR (exA (aA al) fl (K p).isSome (cC (K p)) l F).1).1)&&decide ((hdR (exA (aA al) fl (K p).isSome (cC (K p)) l F).1).2 < aA al k))||!(K p).isSome)) w'/\Fs w0.heap.size false w2 w'):=fun vb xb w2 h2=>by
  have:=aI1 k2 a.name a.npos k y8 l h6 k4 s y6 h2;rw[h8]at this;exact this
 generalize iD (exA (aA al) fl (K p).isSome (cC (K p)) l F).2 s ((decide (0<=(hdR (exA (aA al) fl (K p).isSome (cC (K p)) l F).1).1)&&decide ((hdR (exA (aA al) fl (K p).isSome (cC (K p)) l F).1).2 < aA al k))||!(K p).isSome)=F2 at*
 have z2:Hid (∀ vb xb w2,VC w0 pb lb vb xb vS S F2 (K p).isSome (cC (K p)) w2->Calls Tryz.prog 260 #[.pointer (some ⟨vb,0,none⟩),.iface uq (.pointer (some pq))] w2 (xI w0.heap.size vS S (hdR (exA (aA al) fl (K p).isSome (cC (K p)) q F2).1) (exA (aA al) fl (K p).isSome (cC (K p)) q F2).2 w2)):=fun vb xb w2 h2=>by
  have:=k3 lb vb xb F2 _ _ w2 h2;rw[h7]at this;exact this
 generalize exA (aA al) fl (K p).isSome (cC (K p)) q F2=x at*;obtain⟨xl,F4⟩:=x;dsimp only at*;generalize hdR xl=R at*;have y1:Hid _:=m0;have y0:Hid _:=m1;have k9:Hid _:=m2;have k8:Hid _:=m3;have z0:Hid _:=m4;have k7:Hid _:=m5;have ta9:=fun u v=>kG u v w;have ta10:=fun u v=>gN u v w;have ta11:=fun u v=>pB u v w;have ta12:=fun u v=>iG u v w;have ta13:=fun u v=>iL u v w;have ta14:=fun u v=>pR u v w;clear h hE k4 k3 h8 h7 h6 k0 hi h5 ht m0 m1 m2 m3 m4 m5 hk hs k2;go_enter Tryz.func207,Tryz.ntmps207
 go_wp2_with fail
 refine hv.mono ?_;rintro e W ⟨xb,rfl,hb,y5,y4,y3,y2,k1⟩;clear hv;obtain⟨o1,h9⟩:∃ o1:Obj,o1= .cells #[.pointer (some ⟨lb,0,none⟩),.pointer (some ⟨xb,0,none⟩),.bool (K p).isSome] 349:=⟨_,rfl⟩;obtain⟨kB,bB,zB⟩:=qN W o1;have kB':Hid ((W.alloc o1).heap[W.heap.size]?=some (.cells #[.pointer (some ⟨lb,0,none⟩),.pointer (some ⟨xb,0,none⟩),.bool (K p).isSome] 349 (0,0))):=by rw[Hid,kB,h9]
 have V3:=k1 _ bB W.heap.size kB'.out;have F3:Hid (Fs w0.heap.size false w (W.alloc o1)):=(Fs.of hb HS.out.size false).trans (Fs.of bB (HS.out.new hb).size false);have y9:Hid (VC w0 pb lb W.heap.size xb vS S F (K p).isSome (cC (K p)) (W.alloc o1)):=V3;have k6:=z1.out _ _ _ V3.drew;have c0:=aE V3.low y1.out;have c1:=aE V3.low y0.out;have c2:=aE V3.low k9.out;have c3:=aE V3.low k8.out;have c5:=aE V3.low k7.out;clear V3 kB bB hb k1 zB y5 y4 y3 y2;go_upto_region 8 with fail
 rw[<-h9];clear h9;generalize W.alloc o1=W1 at*
 go_region_held3 (fun w'=>w'.cell? ⟨b,0,none⟩=some (.string a.name)/\w'.cell? ⟨b,1,none⟩=some (.int .i64 a.npos)/\w'.cell? ⟨b,2,none⟩=some (.int .i64 k)/\w'.cell? ⟨b,3,none⟩=some (.iface ul (.pointer (some pl)))/\w'.cell? ⟨b,5,none⟩=some (.int .i64 (s:Int)))
  (first
    |(refine⟨?_,?_,?_,?_,?_⟩<;>assumption)
    |go_keep)
  ((go_at_call 268;refine k6.mono ?_;rintro e W2 ⟨rfl,f2,x2⟩;have V2:=y9.out.drew.next x2 f2;have d0:=aE V2.low y1.out;have d1:=aE V2.low y0.out;have d2:=aE V2.low k9.out;have d3:=aE V2.low k8.out;have d5:=aE V2.low k7.out))
 have k5:=z2.out _ _ _ V2;have d4:=aE V2.low z0.out;have F5:Hid (Fs w0.heap.size false w W2):=F3.out.drew.trans x2;clear V2 d0 d1 d2 d3 d5 c0 c1 c2 c3 c5 f2 x2 k6;go_wp2_with fail
 refine k5.mono ?_;rintro e W3 ⟨rfl,f3,x3⟩
 have FIN:Hid (pO w0 pb lb kb vS S p nw (c+2*M) K (K p,F4) w (.returned (.tuple #[])) W3):=
  ⟨rfl,nw,K,Nat.le_refl _,(HS.out.next (F5.out.trans x3) f3).mono (by omega) hc,rfl,fun _ _ _=>rfl,(F5.out.trans x3).both⟩
 clear f3 x3 k5 d4;go_wp2;go_end0
 exact FIN.out
theorem aLR{b o b2 o2:Nat}{a z:Nd}{l x y:Tr}(ht:a.tag=11)(hz:z.tag=18)(hi:IsT w0 (.node b o a l (.node b2 o2 z x y)))(hl:Ws 1 l/\GCd 269 w0 pb vS S al fl aC l)(hx:Ws 4 x/\GSk 136 w0 pb vS S al fl aC x)(hy:Ws 4 y/\GSk 136 w0 pb vS S al fl aC y):GSk 207 w0 pb vS S al fl aC (.node b o a l (.node b2 o2 z x y)):=by
 intro lb kb F nw c K p w hp hc h
 have k7:mu (.node b o a l (.node b2 o2 z x y))=1+mu l+(mu x+mu y):=by
  conv=>lhs;unfold mu
  rw[if_neg (by omega),if_pos (.inr (.inr ht))]
  conv=>lhs;rhs;unfold mu
  rw[if_neg (by omega),if_neg (by omega)];omega
 rw[k7]at hc ⊢;have h6:aC (.node b o a l (.node b2 o2 z x y))= .iface 332 (.pointer (some ⟨b,0,none⟩)):=(if_neg (by omega)).trans (by rw[ht];rfl);rw[h6];obtain⟨k5,y1⟩:=hl;obtain⟨k4,y0⟩:=hx;obtain⟨k3,k9⟩:=hy;obtain⟨ul,pl,k6⟩:=k5.val (.inr (.inl rfl));obtain⟨ax,cpx,h9⟩:=k4.lstval (.inr (.inl rfl));obtain⟨ay,cpy,h8⟩:=k3.lstval (.inr (.inl rfl))
 obtain⟨m0,m1,m2⟩:w0.cell? ⟨b,0,none⟩=some (aC l)/\w0.cell? ⟨b,1,none⟩=some (aC x)/\w0.cell? ⟨b,2,none⟩=some (aC y):=by
  obtain⟨cs,k2,h0,x',y',z',p',r',e,h1,h2⟩:=aI hi.2.2 (n:=11) ht;cases e;exact⟨by rw[cell_of_row _ _ _ _ _ _ k2];exact h0,by rw[cell_of_row _ _ _ _ _ _ k2];exact h1,by rw[cell_of_row _ _ _ _ _ _ k2];exact h2⟩
 have hfew:=h.few;have h5:=y1 lb kb F nw c K p w hp (by omega) h;rw[k6]at m0 h5;rw[h9]at m1;rw[h8]at m2
 have z5:Hid (∀ (F1:Fl) (nw1 c1:Nat) (K1:Kn) (W:World) (s:St),K1 p=s->0<=p/\p<=(nw1:Int)->c1+2*mu x<=4611686018427387904->SkW w0 pb lb kb vS S F1 nw1 c1 K1 W->Calls Tryz.prog 136 #[.pointer (some ⟨lb,0,none⟩),.int .i64 p,.slice ax (aD x) cpx] W (pO w0 pb lb kb vS S p nw1 (c1+2*mu x) K1 (stA (aA al) fl x s F1) W)):=fun F1 nw1 c1 K1 W s hs h1 h2 h3=>by
  have:=y0 lb kb F1 nw1 c1 K1 p W h1 h2 h3;rw[h9,hs]at this;exact this
 have z4:Hid (∀ (F1:Fl) (nw1 c1:Nat) (K1:Kn) (W:World) (r:Int) (s:St),K1 r=s->0<=r/\r<=(nw1:Int)->c1+2*mu y<=4611686018427387904->SkW w0 pb lb kb vS S F1 nw1 c1 K1 W->Calls Tryz.prog 136 #[.pointer (some ⟨lb,0,none⟩),.int .i64 r,.slice ay (aD y) cpy] W (pO w0 pb lb kb vS S r nw1 (c1+2*mu y) K1 (stA (aA al) fl y s F1) W)):=fun F1 nw1 c1 K1 W r s hs h1 h2 h3=>by
  have:=k9 lb kb F1 nw1 c1 K1 r W h1 h2 h3;rw[h8,hs]at this;exact this
 rw[aUW ht];have z3:Hid _:=m1;have z2:Hid _:=m2;have c0:=aE h.low m0;have ta9:=fun u v=>kG u v w;have ta10:=fun u v=>gN u v w;have ta11:=fun u v=>pB u v w;have ta12:=fun u v=>iG u v w;have ta13:=fun u v=>iL u v w;have ta14:=fun u v=>pR u v w;generalize y3:cdA (aA al) fl l (K p) F=C at*;generalize hU:stA (aA al) fl x C.1 C.2.2=U at*;generalize hV:stA (aA al) fl y C.2.1 U.2=V at*;have HU:Hid (stA (aA al) fl x C.1 C.2.2=U):=hU;have HV:Hid (stA (aA al) fl y C.2.1 U.2=V):=hV;clear y3 hU hV h y1 y0 k9 k5 k4 k3 k6 h9 h8 hi h6 ht k7 m0 m1 m2 hz;go_enter Tryz.func207,Tryz.ntmps207
 go_wp2_with fail
 refine h5.mono ?_;rintro e W1 ⟨r,nw1,K1,rfl,hr1,hr2,S1,e1,e2,e3,U1⟩;have hf1:=S1.few;have k1:=z5.out C.2.2 nw1 (c+2*mu l) K1 W1 _ e1 (by omega) (by omega) S1;rw[HU.out]at k1;have d1:=aE S1.low z3.out;have z1:Hid _:=U1;have y8:Hid _:=e2;have y7:Hid _:=e3;clear S1 U1 e1 e2 e3 h5 c0;go_wp2_with fail
 refine k1.mono ?_;rintro e W2 ⟨rfl,nw2,K2,g0,S2,g1,g2,U2⟩;have hf2:=S2.few;have k8:K2 (r:Int)=C.2.1:=by rw[g2 (r:Int) (by omega) (by omega)];exact y8.out
 have k0:=z4.out U.2 nw2 (c+2*mu l+2*mu x) K2 W2 (r:Int) _ k8 (by omega) (by omega) S2;rw[HV.out]at k0;have d2:=aE S2.low z2.out;have z0:Hid (Fu w0.heap.size w W2):=z1.out.trans U2;have y6:Hid _:=g1;have y5:Hid _:=g2;clear S2 U2 g1 g2 k1 d1 k8;go_wp2_with fail
 refine k0.mono ?_;rintro e W3 ⟨rfl,nw3,K3,j0,S3,j1,j2,U3⟩;have hf3:=S3.few;have hj:=aC4 S3.lk p (r:Int) (by omega) (by omega) (by omega) (by omega);have h7:Hid _:=S3;have y9:Hid (Fu w0.heap.size w W3):=z0.out.trans U3;have y4:Hid _:=j1;have y2:Hid _:=j2;clear S3 U3 j1 j2 k0 d2;go_wp2_with fail
 refine hj.mono ?_;rintro e W4 ⟨rfl,h4,f4⟩;have S4:=h7.out.step f4 h4 (eW (eW h7.out.ok OkS.none (r:Int)) (nP (h7.out.ok p) (h7.out.ok (r:Int))) p)
 have FIN:Hid (pO w0 pb lb kb vS S p nw (c+2*(1+mu l+(mu x+mu y))) K (lF U.1 V.1,V.2) w (.returned (.tuple #[])) W4):=by
  refine⟨rfl,nw3,_,by omega,S4.mono (by omega) hc,?_,fun q hq hl=>?_,y9.out.trans f4.both⟩
  ·rw[bU,y4.out,y2.out p (by omega) (by omega),y6.out]
  ·rw[cE hq,cE (by omega),y2.out q (by omega) (by omega),y5.out q hq (by omega)];exact y7.out q hq hl
 clear S4 h4 f4 hj;go_wp2;go_end0
 exact FIN.out
theorem aLQ{b o:Nat}{a:Nd}{l q:Tr}(ht:a.tag=12)(hg:GSk 271 w0 pb vS S al fl cB (.node b o a l q)):GSk 207 w0 pb vS S al fl aC (.node b o a l q):=by
 intro lb kb F nw c K p w hp hc h;have h2:aC (.node b o a l q)= .iface 338 (.pointer (some ⟨b,0,none⟩)):=(if_neg (by omega)).trans (by rw[ht];rfl);rw[h2];have h0:=hg lb kb F nw c K p w hp hc h;have h1:Calls Tryz.prog 271 #[.pointer (some ⟨lb,0,none⟩),.int .i64 p,.pointer (some ⟨b,0,none⟩)] w _:=h0;have ta9:=fun u v=>kG u v w;have ta10:=fun u v=>gN u v w;have ta11:=fun u v=>pB u v w;have ta12:=fun u v=>iG u v w;have ta13:=fun u v=>iL u v w;have ta14:=fun u v=>pR u v w;generalize stA (aA al) fl (.node b o a l q) (K p) F=y at*;clear hg h h0 h2 ht;go_enter Tryz.func207,Tryz.ntmps207
 go_wp2_with fail
 refine h1.mono ?_;rintro e W2 ⟨rfl,hG⟩;have HG:Hid (pO w0 pb lb kb vS S p nw (c+2*mu (.node b o a l q)) K y w (.returned (.tuple #[])) W2):=⟨rfl,hG⟩;clear hG;go_wp2;go_end0
 exact HG.out
end Go.Proofs.YtikffmloeifkpaaGreatDoor
namespace Go.Proofs.YtikffmloeifkpaaGreatDoor
open Go.RowKit Go.Lib Go.Deep Go.Maps Go.ChangeMaps Go.MapKept
variable {w0:World} {H pb lb kb vb xb nw nw' c c':Nat} {vS:Value} {K K':Kn} {S:Sl} {F F':Fl} {alive:Bool} {vs:Vr} {u w w':World} {m:Bool} {al fl:List Tr} {lens:Nat->Int}
def wst(g:Nat->Bool)(s q:St):St × Bool:=match s with
 |none=>(none,false)
 |some vs=>aP9 vs q g
theorem aD0{g:Nat->Bool}{cc:St->Fl->St × St × Fl}{f:St->Fl->St × Fl}{n round:Nat}{s:St}:whA g cc f (n+1) round s F=
 if(wst g s (f (cc s F).1 (cc s F).2.2).1).2=true then whA g cc f n (round+1) (if round=3 then(wst g s (f (cc s F).1 (cc s F).2.2).1).1.map (gL g)else(wst g s (f (cc s F).1 (cc s F).2.2).1).1) (f (cc s F).1 (cc s F).2.2).2 else((cc s F).2.1,(f (cc s F).1 (cc s F).2.2).2):=by
 cases s with
 |none=>
  conv=>lhs;unfold whA
  rfl
 |some vs=>
  cases hy:(f (cc (some vs) F).1 (cc (some vs) F).2.2).1 with
  |none=>
   conv=>lhs;unfold whA
   dsimp only;rw[hy];rfl
  |some after=>
   conv=>lhs;unfold whA
   dsimp only;rw[hy];show(if nJ (eJ g vs after) vs=true then _ else _)=if nJ (eJ g vs after) vs=true then _ else _
   by_cases h:nJ (eJ g vs after) vs=true
   ·rw[if_pos h,if_pos h]
    by_cases h3:round=3
    ·rw[if_pos h3,if_pos h3];rfl
    ·rw[if_neg h3,if_neg h3];rfl
   ·rw[if_neg h,if_neg h]
theorem aL8{g:Nat->Bool}{s q:St}(hf:∀ vs,s=some vs->∀ i,g i=true->vs i=aX)(hq:OkS q):(wst g s q).2=false:=by
 cases s with
 |none=>rfl
 |some vs=>
  cases q with
  |none=>rfl
  |some after=>
   show nJ (eJ g vs after) vs=false;have h1:=hf vs rfl;cases hp:nJ (eJ g vs after) vs with
   |false=>rfl
   |true=>
    exfalso;unfold nJ at hp;rw[List.any_eq_true]at hp;obtain⟨i,_,hi⟩:=hp;rw[decide_eq_true_eq]at hi;apply hi;unfold eJ
    split
    ·rename_i hm;rw[h1 i hm];have:=hq after rfl i;unfold cH aX;dsimp only;rw[if_neg (by have:=this.lo;omega),if_neg (by have:=this.hi;omega)]
    ·rfl
theorem aS0{g:Nat->Bool}{s q:St}(hs:OkS s)(hq:OkS q):OkS (wst g s q).1:=by
 cases s with
 |none=>exact OkS.none
 |some vs=>
  cases q with
  |none=>exact hs
  |some after=>
   refine OkS.some fun i=>?_;have h1:=hs vs rfl i;have h2:=hq after rfl i;unfold eJ
   split
   ·unfold cH;refine⟨?_,?_,?_⟩
    ·dsimp only;split
     ·omega
     ·exact h1.lo
    ·dsimp only;have a1:=h1.lo;have a2:=h1.le;have a3:=h1.hi
     split<;>split<;>omega
    ·dsimp only;split
     ·omega
     ·exact h1.hi
   ·exact h1
theorem aL7{g:Nat->Bool}{s q:St}(h:(wst g s q).2=true):∃ vs,(wst g s q).1=some vs:=by
 cases s with
 |none=>cases h
 |some vs=>
  cases q with
  |none=>cases h
  |some after=>exact⟨_,rfl⟩
theorem aKC{g:Nat->Bool}(h:OkS (some vs)):OkS (some (gL g vs)):=OkS.some fun i=>by
 unfold gL
 split
 ·exact bV.all
 ·exact h vs rfl i
theorem zF(op:Int)(a b:Sd):jW none op a b=none:=by
 have h1:∀ a l,jY none a l=none:=fun _ _=>rfl
 have h2:∀ a b far,jK none a b far=none:=fun a b far=>by
  unfold jK
  split
  ·rfl
  ·rw[h1,h1]
 have h3:jA none a b=none:=by
  unfold jA;simp only[h1,ite_self]
 unfold jW;simp only[h1,h2,h3,ite_self]
theorem vG:∀ (t:Tr) (F:Fl),(cdA lens fl t none F).1=none/\(cdA lens fl t none F).2.1=none:=by
 intro t
 induction t with
 |nil=>intro F;exact⟨rfl,rfl⟩
 |node b o a l q ihl ihq=>
  intro F;unfold cdA
  split
  ·exact⟨zF _ _ _,zF _ _ _⟩
  have e1:=ihl F
  split
  ·dsimp only;have e2:=ihq (cdA lens fl l none F).2.2;rw[e1.1,e1.2];exact⟨e2.1,by rw[e2.2];rfl⟩
  ·dsimp only;have e2:=ihq (cdA lens fl l none F).2.2;rw[e1.1,e1.2];exact⟨by rw[e2.1];rfl,e2.2⟩
theorem aM2:∀ (n:Nat) (t:Tr) (F:Fl),szT t<=n->(stA lens fl t none F).1=none:=by
 intro n
 induction n with
 |zero=>intro t F h;cases t<;>simp[szT]at h
 |succ n ih=>
  intro t F h0;cases t with
  |nil=>rfl
  |node b o a l q=>
   have hl:szT l<=n/\szT q<=n:=by simp only[szT]at h0;omega
   by_cases t20:a.tag=20\/a.tag=18
   ·rw[qT t20];exact ih l F hl.1
   by_cases t15:a.tag=15
   ·rw[sY t15,ih l F hl.1];exact ih q _ hl.2
   by_cases t9:a.tag=9
   ·rw[yF t9];rfl
   by_cases t10:a.tag=10
   ·rw[tD t10]
   by_cases t11:a.tag=11
   ·cases q with
    |nil=>rw[xM t11]
    |node b2 o2 z x y=>
     have hs:szT x<=n/\szT y<=n:=by have:=hl.2;simp only[szT]at this;omega
     rw[aUW t11,(vG l F).1,(vG l F).2,ih x _ hs.1,ih y _ hs.2];rfl
   by_cases t12:a.tag=12
   ·rw[aUV t12,aD0];have e:(wst (dR q) none (stA lens fl q (cdA lens fl l none F).1 (cdA lens fl l none F).2.2).1).2=false:=rfl;rw[e,if_neg (by decide)];exact(vG l F).2
   by_cases t13:a.tag=13
   ·rw[aUU t13]
   by_cases t14:a.tag=14
   ·rw[sZ t14]
   ·rw[aBR ⟨by omega,by omega,t15,by omega⟩]
theorem aIH{mb:Nat}{g:Nat->Bool}(h:LkW H lb pb kb vS nw c K w)(p o:Int)(hp:0<=p/\p<=9223372036854775807)(ho:0<=o/\o<=9223372036854775807)(h0:p≠o)(hd:K p=none->K o=none)(hm:eG mb g w):
 Calls Tryz.prog 317 #[.pointer (some ⟨lb,0,none⟩),.int .i64 p,.int .i64 o,.pointer (some ⟨mb,0,none⟩)] w fun e w'=>e= .returned (.bool (wst g (K p) (K o)).2)/\LkW H lb pb kb vS nw c (bI K p (wst g (K p) (K o)).1) w'/\Fs H true w w':=by
 cases hK:K p with
 |some vs=>exact aP7 h p o hp ho h0 hK hm
 |none=>
  have hO:=hd hK;obtain⟨E,h⟩:=h;obtain⟨c0,c1,c2,c3,cf⟩:=cO h.blk;have lk:=(h.at_ o ho).1;rw[hO,h.dead o hO]at lk
  change (Instr.lookup 170 (.map (some kb)) (.int .i64 o) true).run Tryz.prog w= .ok (.tuple #[.pointer none,.bool false]) w at lk
  have FIN:Hid (LkW H lb pb kb vS nw c (bI K p none) w):=⟨E,h.congr fun q=>(mK hK q).symm⟩;clear h hO hK hm;go_enter Tryz.func317,Tryz.ntmps317
  go_wp2;go_ret;exact⟨rfl,FIN.out,Fs.refl _ _ _⟩
end Go.Proofs.YtikffmloeifkpaaGreatDoor
