/- Contracts. -/
import Derived.Test.YtikffmloeifkpaaGreatDoorR13
set_option maxHeartbeats 8000000
set_option maxRecDepth 100000
namespace Go.Proofs.YtikffmloeifkpaaGreatDoor
open Go.RowKit Go.Lib Go.Deep Go.ChangeMaps Go.MapKept Tryz
section
variable {H O X:Nat} {it D M:Value} {m:Int} {U:List Tr}
theorem aCG{b o:Nat}{a:Nd}{l r:Tr}{w W2 W3:World}{S:Sl}{u:Nat}(i:Ws u l)(K:Uq a l r)(h0:a.a≠20)(c:a.a≠2/\a.a≠3/\a.a≠6/\a.a≠10)(j:iR w b a l r)(g:Fr H (Pt l) w W2)(k:bU W2 (mU U l S))(e:Fr H (Pt r) W2 W3)(n:bU W3 (mU U r (iD U l S))):
 bU W3 (mU U (.node b o a l r) S)/\Fr H (Pt (.node b o a l r)) w W3:=by
 have s:=dZ j g Pt.body (fun p c Z d=>K.own_l p c d.2) h0;have t:=dZ s e Pt.body (fun p c Z d=>K.own_r p c d.2) h0;have q:=aC9 k e i (mK _ _ _) K.apart_
 have h:mU U (.node b o a l r) S= .node b o a (mU U l S) (mU U r (iD U l S)):=by
  show BT.node b o {a with f:=qJ U a S (iD U l (gO U a S))} (mU U l (gO U a S)) (mU U r (lH a (iD U l (gO U a S))))=_;rw[(qI (U:=U) (S:=S) (G:=S) c).1,(qI (U:=U) (S:=S) (G:=iD U l S) c).2.1,(qI (U:=U) (S:=S) (G:=iD U l S) c).2.2]
 rw[h];exact⟨⟨q,n,kK t (mK _ _ _) (mK _ _ _)⟩,(g.mono Pt.left).t (e.mono Pt.right)⟩
theorem yO{b o:Nat}{a:Nd}{l r:Tr}{S:Sl}(c:a.a≠2/\a.a≠3/\a.a≠6/\a.a≠10):iD U (.node b o a l r) S=iD U r (iD U l S):=by
 grind[iD,lH,gO]
theorem aX3{b o:Nat}{a:Nd}{l r:Tr}{S:Sl}{k:Int}(h:a.a=2/\k=1\/a.a=10/\k=2):mU U (.node b o a l r) S= .node b o {a with f:=(S.length:Int)} (mU U l (S++[(k,a.b)])) (mU U r (iD U l (S++[(k,a.b)])))/\iD U (.node b o a l r) S=iD U r (iD U l (S++[(k,a.b)])):=by
 grind[gO,lH,qJ,iD,mU]
theorem aW3{b o:Nat}{a:Nd}{l r:Tr}(I:Ws 0 (.node b o a l r))(G:dE H (.node b o a l r))(N:(ps (.node b o a l r)).Nodup)(z:a.a=2\/a.a=4\/a.a=5->Ws 0 l/\vX 197 H O X it D M m U aH l)(s:a.a=6->vX 252 H O X it D M m U fO (.node b o a l r))(c:a.a=3->vX 251 H O X it D M m U fO (.node b o a l r)):vX 197 H O X it D M m U aH (.node b o a l r):=by
 intro S w h hi y;obtain⟨a5,sx,sy,x,y3,y4⟩:=I.parts
 have Q:a.a < 7:=by
  rcases Qt a.a 7 with h|h
  ·exact h
  ·exfalso;unfold mD at x;rw[if_pos rfl]at x;rw[Oh,Oh,Oh,Oh,Oh]at x;cases x
 have P:a.a=0\/a.a=1->l= .nil:=fun h=>by
  have:sx=99:=by rcases h with h|h<;>rw[h]at x<;>cases x<;>rfl
  subst this;exact y3.nil_of
 have B:a.a≠6->r= .nil:=fun h=>by
  have:sy=99:=by
   have p:a.a=0\/a.a=1\/a.a=2\/a.a=3\/a.a=4\/a.a=5:=Oa
   rcases p with p|p|p|p|p|p<;>rw[p]at x<;>cases x<;>rfl
  subst this;exact y4.nil_of
 have y0:H<=b:=G.2.2 (by unfold kJ;omega);have q:=hi.2.2;have K:=fU N;have F:=nC b o a l r;have hv:aH (.node b o a l r)= .iface (iV a.a) (Qd b):=Oh;rw[hv];clear hv x;have t2:=fun u C=>aCK u C w;have t3:=fun u C=>aMJ u C w;have t4:=fun u C=>aCM u C w;have t5:=fun u C=>aEV u C w;have t6:=fun u C=>aEW u C w
 by_cases g:a.a=2
 ·obtain rfl:=B Oa;obtain⟨T,V⟩:=z (.l g);obtain⟨u,R,y5⟩:=T.g Oy;rw[Oh,if_pos ⟨Oa,by rw[g];rfl⟩]at F
  have n1:w.cell? ⟨b,1,none⟩=some (Qc a.b):=by
   obtain⟨cs,c,hn,_⟩:=bM q (n:=2) g;rw[cell_of_row _ _ _ _ _ _ c];exact hn.2.1
  obtain⟨eT,eR⟩:=aX3 (U:=U) (b:=b) (o:=o) (l:=l) (r:= .nil) (S:=S) (k:=1) (.l ⟨g,rfl⟩);rw[eT,eR];have HL:Hid (vX 197 H O X it D M m U aH l):=V;have HK:Hid (a.a=2):=g;have HU:Hid (Uq a l .nil):=K;have HI:Hid (bU w (.node b o a l .nil)):=hi;have HB:Hid (H<=b):=y0;have y6:Hid (S.length+1+(ps l).length<=1000000):=by rw[Hid];have h0:(ps (.nil:Tr)).length=0:=rfl;omega
  rw[show iV a.a=393 by rw[g];rfl];clear P B z s c q g V Q K N hi G I eT eR F y y0;go_enter func197,ntmps197
  go_wp2_with fail
  refine(aAK 1 a.b w h (Oi y6.o)).mono ?_;rintro e E ⟨rfl,h4,x4⟩;have o4:iR E b a l .nil:=dZ HI.o.2.2 x4 F0.body (fun R d a4 hq=>hq) (Oi HK.o);have i4:bU E l:=bU.fr x4 (fun t R d=>absurd d id) T HI.o.1 (fun _ _ _ h=>h);obtain⟨h5,x5,o5,⟨q5,c5⟩,z5⟩:=qX (o:=4) (i:=(S.length:Int)) h4 o4 HB.o (.l ⟨.l HK.o,rfl⟩);have i5:bU (E.setCell ⟨b,4,none⟩ (Qc (S.length:Int))) l:=bU.fr x5 (fun t R d=>(Po.body t R d).e) T i4 (Po.o HU.o.own_l)
  have n3:(E.setCell ⟨b,4,none⟩ (Qc (S.length:Int))).cell? ⟨b,3,none⟩=some (aH l):=by
   obtain⟨cs,c,_,v,_⟩:=bM o5 (n:=2) HK.o;rw[cell_of_row _ _ _ _ _ _ c];exact v
  have X5:Hid (Fr H (Pt (.node b o a l .nil)) w (E.setCell ⟨b,4,none⟩ (Qc (S.length:Int)))):=(x4.mono F0.to).t ((show Fr H (Po a) E _ from x5).mono Po.to);have y7:Hid (iR (E.setCell ⟨b,4,none⟩ (Qc (S.length:Int))) b {a with f:=(S.length:Int)} l .nil):=o5;have j:=HL.o _ _ h5 i5 (by have:=y6.o;rw[List.length_append];simp only[List.length_cons,List.length_nil];omega);rw[y5]at n3 j;clear o4 o5 x4 x5 i4 h4 n1 i5 h5;go_upto_region 4 with fail
  generalize E.setCell ⟨b,4,none⟩ (Qc (S.length:Int))=W5 at*;go_wp2_with fail
  refine j.mono ?_;rintro e W6 ⟨rfl,s,i6,x6⟩;go_wp2;go_end0
  have o6:=dZ y7.o x6 Pt.body (fun R d a4 hq=>HU.o.own_l R d hq.2) (by have:=HK.o;show a.a≠20;omega);exact⟨rfl,s,⟨i6,trivial,kK o6 (mK _ _ _) (Sh.refl _)⟩,X5.o.t (x6.mono Pt.left)⟩
 by_cases J:a.a=3
 ·have j:=c J S w h hi y;have k1:Calls prog 251 #[Qd X,Qd b] w _:=j;rw[show iV a.a=396 by rw[J];rfl];clear P B z s c q g J j Q K N hi y3 y4 G I F y y0;go_enter func197,ntmps197
  go_wp2_with fail
  refine k1.mono ?_;rintro e W2 ⟨rfl,p,W,Z⟩;go_wp2;go_end0
  exact⟨rfl,p,W,Z⟩
 by_cases L:a.a=6
 ·have j:=s L S w h hi y;have k1:Calls prog 252 #[Qd X,Qd b] w _:=j;rw[show iV a.a=403 by rw[L];rfl];clear P B z s c q g J L j Q K N hi y3 y4 G I F y y0;go_enter func197,ntmps197
  go_wp2_with fail
  refine k1.mono ?_;rintro e W2 ⟨rfl,p,W,Z⟩;go_wp2;go_end0
  exact⟨rfl,p,W,Z⟩
 have d:a.a≠2/\a.a≠3/\a.a≠6/\a.a≠10:=Oa
 obtain rfl:=B L;rw[yO d]
 by_cases Y:a.a=4\/a.a=5
 ·obtain⟨T,V⟩:=z (.r Y);obtain⟨u,R,y5⟩:=T.g Oy
  have m3:w.cell? ⟨b,0,none⟩=some (aH l):=by
   rcases Y with A|A
   ·obtain⟨cs,c,v⟩:=bM q (n:=4) A;rw[cell_of_row _ _ _ _ _ _ c];exact v
   ·obtain⟨cs,c,v⟩:=bM q (n:=5) A;rw[cell_of_row _ _ _ _ _ _ c];exact v
  have j:=V S w h hi.1 Oa;rw[y5]at m3 j;have a2:Hid _:=fun W2 Z W=>aCG (H:=H) (U:=U) (S:=S) (o:=o) (W2:=W2) (W3:=W2) T K (by omega:a.a≠20) d q Z W (Fr.refl _ _ _) trivial;rcases Y with A|A
  ·rw[show iV a.a=398 by rw[A];rfl];clear P B z s c q g J L A V Q K N hi G I F y y0 d;go_enter func197,ntmps197
   go_wp2_with fail
   refine j.mono ?_;rintro e W3 ⟨rfl,v,i3,x3⟩;go_wp2;go_end0
   exact⟨rfl,v,a2.o W3 x3 i3⟩
  ·rw[show iV a.a=401 by rw[A];rfl];clear P B z s c q g J L A V Q K N hi G I F y y0 d;go_enter func197,ntmps197
   go_wp2_with fail
   refine j.mono ?_;rintro e W3 ⟨rfl,v,i3,x3⟩;go_wp2;go_end0
   exact⟨rfl,v,a2.o W3 x3 i3⟩
 ·have a3:a.a=0\/a.a=1:=Oa
  obtain rfl:=P a3;have y2:=aCG (H:=H) (U:=U) (o:=o) (S:=S) (W2:=w) (W3:=w) y3 K (by omega:a.a≠20) d q (Fr.refl _ _ _) trivial (Fr.refl _ _ _) trivial;rcases a3 with k0|k0
  ·rw[show iV a.a=362 by rw[k0];rfl];clear P B z s c q g J L k0 Y Q K N G I F y y0 d;go_enter func197,ntmps197
   go_wp2;go_end0
   exact⟨rfl,h,y2⟩
  ·rw[show iV a.a=359 by rw[k0];rfl];clear P B z s c q g J L k0 Y Q K N G I F y y0 d;go_enter func197,ntmps197
   go_wp2;go_end0
   exact⟨rfl,h,y2⟩
theorem aW6{b o:Nat}{a:Nd}{l r:Tr}(L:Ws 1 (.node b o a l r))(Z:(ps (.node b o a l r)).Nodup)(G:a.a=7->Ws 0 l/\Ws 0 r/\vX 197 H O X it D M m U aH l/\vX 197 H O X it D M m U aH r)(I:a.a=8->Ws 1 l/\Ws 1 r/\vX 199 H O X it D M m U aH l/\vX 199 H O X it D M m U aH r):vX 199 H O X it D M m U aH (.node b o a l r):=by
 intro S w h hi hS;obtain⟨y1,sx,sy,k0,Q,P⟩:=L.parts
 have ht:a.a=7\/a.a=8:=by
  by_cases h1:a.a=7
  ·exact .l h1
  by_cases c:a.a=8
  ·exact .r c
  ·exfalso;simp[mD,h1,c]at k0
 have K:=fU Z;have v:a.a≠20:=Oa
 have k:=hi.2.2;have B:a.a≠2/\a.a≠3/\a.a≠6/\a.a≠10:=Oa
 have k2:=nC b o a l r;have y4:=qH U l S;have y6:S.length+(ps l).length<=1000000:=Oa
 have y5:(iD U l S).length+(ps r).length<=1000000:=Oa
 have hv:aH (.node b o a l r)= .iface (iV a.a) (Qd b):=if_neg v;rw[hv,yO B];clear hv k0 y1;have t1:=fun z Y=>aCL z Y w;have t2:=fun z Y=>aHW z Y w;have a2:Hid _:=fun W2 W3 f t A u=>aCG (H:=H) (U:=U) (o:=o) (S:=S) (W2:=W2) (W3:=W3) Q K v B k f t A u;have RK:Hid _:=fun W2 f=>kI (H:=H) (W2:=W2) P K hi f v;rcases ht with C|E
 ·obtain⟨q,p,y,x⟩:=G C;obtain⟨z,a3,y0⟩:=q.g Oy;obtain⟨u2,p2,R⟩:=p.g Oy;have F:Hid (vX 197 H O X it D M m U aH r):=x
  have i:∀ d,iR d b a l r->d.cell? ⟨b,2,none⟩=some (aH l)/\d.cell? ⟨b,3,none⟩=some (aH r):=by
   intro d J;obtain⟨cs,s,_,_,c,g⟩:=bM J (n:=7) C;exact⟨Og s c,Og s g⟩
  have T:=(i w k).1;have y3:Hid _:=i;have j:=y S w h hi.1 y6;rw[y0]at T j;rw[show iV a.a=253 by rw[C];rfl];clear G I y x k K Z hi L v B Q P q p i C h k2 y4 hS;go_enter func199,ntmps199
  go_wp2_with fail
  refine j.mono ?_;rintro e W2 ⟨rfl,c,t,f⟩;obtain⟨N,W⟩:=RK.o W2 f;have V:=(y3.o W2 W).2;have h0:=F.o _ _ c N y5;rw[R]at V h0;go_wp2_with fail
  refine h0.mono ?_;rintro e W3 ⟨rfl,g,u,A⟩;go_wp2;go_end0
  exact⟨rfl,g,a2.o W2 W3 f t A u⟩
 ·obtain⟨q,p,y,x⟩:=I E;obtain⟨z,a3,y0⟩:=q.g Ox;obtain⟨u2,p2,R⟩:=p.g Ox;have F:Hid (vX 199 H O X it D M m U aH r):=x
  have i:∀ d,iR d b a l r->d.cell? ⟨b,1,none⟩=some (aH l)/\d.cell? ⟨b,2,none⟩=some (aH r):=by
   intro d J;obtain⟨cs,s,_,c,g⟩:=bM J (n:=8) E;exact⟨Og s c,Og s g⟩
  have T:=(i w k).1;have y3:Hid _:=i;have j:=y S w h hi.1 y6;rw[y0]at T j;rw[show iV a.a=407 by rw[E];rfl];clear G I y x k K Z hi L v B Q P q p i E h k2 y4 hS;go_enter func199,ntmps199
  go_wp2_with fail
  refine j.mono ?_;rintro e W2 ⟨rfl,c,t,f⟩;obtain⟨N,W⟩:=RK.o W2 f;have V:=(y3.o W2 W).2;have h0:=F.o _ _ c N y5;rw[R]at V h0;go_wp2_with fail
  refine h0.mono ?_;rintro e W3 ⟨rfl,g,u,A⟩;go_wp2;go_end0
  exact⟨rfl,g,a2.o W2 W3 f t A u⟩
end
section
variable {H O X:Nat} {it D M:Value} {m:Int} {U:List Tr}
theorem aUQ{b o:Nat}{a:Nd}{l r:Tr}(R:Ws 2 (.node b o a l r))(hH:dE H (.node b o a l r))(y3:(ps (.node b o a l r)).Nodup)(Q:a.a=9\/a.a=10\/a.a=13\/a.a=14->Ws 0 l/\vX 197 H O X it D M m U aH l)(y4:a.a=10->Ws 0 r/\vX 197 H O X it D M m U aH r)(P:a.a=11\/a.a=12->Ws 1 l/\vX 199 H O X it D M m U aH l)(hB:a.a=12->Ws 4 r/\vX 76 H O X it D M m U aH r)(hI:a.a=11->∃ W Y A p G,r= .node W Y A p G/\A.a=18/\Ws 4 p/\Ws 4 G/\vX 76 H O X it D M m U aH p/\vX 76 H O X it D M m U aH G):
 vX 129 H O X it D M m U aH (.node b o a l r):=by
 obtain⟨b7,sx,sy,V,y2,Z⟩:=R.parts;obtain⟨j8,j7⟩:=zY R;have K:=fU y3;have z8:=hH.2.2 (by unfold kJ;omega);intro S w h hi hS;have y0:a.a≠20:=Oa
 have x:=hi.2.2;have k5:=nC b o a l r;have y6:=qH U l S;have hv:aH (.node b o a l r)= .iface (iV a.a) (Qd b):=if_neg y0;rw[hv];have t1:=fun u B=>aQS u B w;have t2:=fun u B=>aHV u B w;have t3:=fun u B=>aWQ u B w;have t4:=fun u B=>aHT u B w;have t5:=fun u B=>aEU u B w;have t6:=fun u B=>aQT u B w;have HU:Hid _:=K
 by_cases y:a.a=10
 ·obtain⟨k0,z⟩:=Q (.r (.l y));obtain⟨k4,y8⟩:=y4 y;obtain⟨u,p,E⟩:=k0.g Oy;obtain⟨u2,p2,y9⟩:=k4.g Oy;rw[Oh,if_pos ⟨Oa,by rw[y];rfl⟩]at k5
  have n1:w.cell? ⟨b,1,none⟩=some (Qc a.b):=by
   obtain⟨cs,j,hn,_⟩:=bM x (n:=10) y;rw[cell_of_row _ _ _ _ _ _ j];exact hn.2.1
  have F:∀ q a',a'.a=10->iR q b a' l r->q.cell? ⟨b,3,none⟩=some (aH l)/\q.cell? ⟨b,4,none⟩=some (aH r):=by
   intro q a' j9 ho;obtain⟨cs,j,_,I,h4,_⟩:=bM ho (n:=10) j9;exact⟨Og j I,Og j h4⟩
  obtain⟨eT,eR⟩:=aX3 (U:=U) (b:=b) (o:=o) (l:=l) (r:=r) (S:=S) (k:=2) (.r ⟨y,rfl⟩);rw[eT,eR];have y5:Hid _:=F;have HL:Hid _:=z;have HR:Hid _:=y8;have HK:Hid _:=y;have HI:Hid _:=hi;have HB:Hid (H<=b):=z8;have z0:=qH U l (S++[(2,a.b)]);rw[List.length_append]at z0;simp only[List.length_cons,List.length_nil]at z0;have z9:Hid (S.length+1+(ps l).length<=1000000):=by rw[Hid];omega
  have g8:Hid ((iD U l (S++[(2,a.b)])).length+(ps r).length<=1000000):=by rw[Hid];omega
  rw[show iV a.a=329 by rw[y];rfl];clear Q y4 P hB hI R hH y3 K x hv V y2 Z hi y F z y8 eT eR k5 y6 z0 hS z8 j8 j7 y0;go_enter func129,ntmps129
  go_wp2_with fail
  refine(aAK 2 a.b w h (Oi z9.o)).mono ?_;rintro e W4 ⟨rfl,h4,x4⟩;have o4:=dZ HI.o.2.2 x4 F0.body (fun p c a3 hq=>hq) (Oi HK.o);have i4:=bU.fr x4 (fun t p c=>absurd c id) k0 HI.o.1 (fun _ _ _ h=>h);have j4:=bU.fr x4 (fun t p c=>absurd c id) k4 HI.o.2.1 (fun _ _ _ h=>h);obtain⟨h5,x5,o5,⟨q5,c5⟩,z5⟩:=qX (o:=5) (i:=(S.length:Int)) h4 o4 HB.o (.r ⟨HK.o,rfl⟩);have i5:=bU.fr x5 (fun t p c=>(Po.body t p c).e) k0 i4 (Po.o HU.o.own_l);have j5:=bU.fr x5 (fun t p c=>(Po.body t p c).e) k4 j4 (Po.o HU.o.own_r);have n3:=(y5.o _ {a with f:=(S.length:Int)} HK.o o5).1;have X5:Hid (Fr H (Pt (.node b o a l r)) w (W4.setCell ⟨b,5,none⟩ (Qc (S.length:Int)))):=(x4.mono F0.to).t ((show Fr H (Po a) W4 _ from x5).mono Po.to);have g6:Hid (iR (W4.setCell ⟨b,5,none⟩ (Qc (S.length:Int))) b {a with f:=(S.length:Int)} l r):=o5;have g7:Hid _:=j5;have s:=HL.o _ _ h5 i5 (by have:=z9.o;rw[List.length_append];simp only[List.length_cons,List.length_nil];omega);rw[E]at n3 s;clear o4 o5 x4 x5 i4 j4 h4 n1 i5 j5 h5;go_upto_region 7 with fail
  generalize W4.setCell ⟨b,5,none⟩ (Qc (S.length:Int))=W5 at*;go_wp2_with fail
  refine s.mono ?_;rintro e W6 ⟨rfl,h6,i6,x6⟩;have o6:=dZ g6.o x6 Pt.body (fun p c a3 hq=>HU.o.own_l p c hq.2) (by have:=HK.o;show a.a≠20;omega);have j6:=bU.fr x6 (fun t p c=>(Pt.body t p c).e) k4 g7.o (Pt.o HU.o.apart);have n4:=(y5.o W6 {a with f:=(S.length:Int)} HK.o o6).2;have N:=HR.o _ _ h6 j6 g8.o;rw[y9]at n4 N;have g5:Hid (iR W6 b {a with f:=(S.length:Int)} l r):=o6;clear o6 j6;go_wp2_with fail
  refine N.mono ?_;rintro e W7 ⟨rfl,h7,i7,x7⟩;go_wp2;go_end0
  have o7:=dZ g5.o x7 Pt.body (fun p c a3 hq=>HU.o.own_r p c hq.2) (by have:=HK.o;show a.a≠20;omega);have l7:=aC9 i6 x7 k0 (mK _ _ _) HU.o.apart_;exact⟨rfl,h7,⟨l7,i7,kK o7 (mK _ _ _) (mK _ _ _)⟩,(X5.o.t (x6.mono Pt.left)).t (x7.mono Pt.right)⟩
 have c:a.a≠2/\a.a≠3/\a.a≠6/\a.a≠10:=Oa
 have z1:S.length+(ps l).length<=1000000:=Oa
 have g4:(iD U l S).length+(ps r).length<=1000000:=Oa
 rw[yO c];have a2:Hid _:=fun W2 W3 d v L i3=>aCG (H:=H) (U:=U) (o:=o) (S:=S) (W2:=W2) (W3:=W3) y2 K y0 c x d v L i3;have RK:Hid _:=fun W2 d=>kI (H:=H) (W2:=W2) Z K hi d y0
 by_cases C:a.a=11
 ·obtain⟨W,Y,A,p,G,rfl,hz,z4,z2,z7,z6⟩:=hI C;obtain⟨k0,z⟩:=P (.l C);obtain⟨u,pp,E⟩:=k0.g Ox;obtain⟨ao,cp,j1⟩:=z4.w0 Ox;obtain⟨b5,b6,j0⟩:=z2.w0 Ox;have HP:Hid (vX 76 H O X it D M m U aH p):=z7;have HQ:Hid (vX 76 H O X it D M m U aH G):=z6
  have F:∀ q,iR q b a l (.node W Y A p G)->q.cell? ⟨b,0,none⟩=some (aH l)/\q.cell? ⟨b,1,none⟩=some (aH p)/\q.cell? ⟨b,2,none⟩=some (aH G):=by
   intro q ho;obtain⟨cs,j,h0,x',y',z',p',q',e,h1,g⟩:=bM ho (n:=11) C;simp only[BT.node.injEq]at e;obtain⟨rfl,rfl,rfl,rfl,rfl⟩:=e;exact⟨Og j h0,Og j h1,Og j g⟩
  have a6:=fU (b:=W) (o:=Y) K.right;have zp:A.a≠2/\A.a≠3/\A.a≠6/\A.a≠10:=Oa
  have a7:Hid _:=fun(w1:World) ho W2 W3 d v L i3=>aCG (H:=H) (U:=U) (b:=W) (o:=Y) (S:=iD U l S) (W2:=W2) (W3:=W3) (w:=w1) z4 a6 (by omega:A.a≠20) zp ho d v L i3;have a8:Hid _:=fun(w1:World) a9 W2 d=>kI (H:=H) (b:=W) (o:=Y) (W2:=W2) (w:=w1) z2 a6 a9 d (by omega:A.a≠20);have y7:=nC W Y A p G;have g3:=qH U p (iD U l S);have b2:(iD U l S).length+(ps p).length<=1000000:=Oa
  have b3:(iD U p (iD U l S)).length+(ps G).length<=1000000:=Oa
  have y5:Hid _:=F;have J:=(F w x).1;have s:=z S w h hi.1 z1;rw[E]at J s;rw[yO zp];have HT:Hid (a.a=11):=C;rw[show iV a.a=332 by rw[C];rfl];clear Q y4 P hB hI R hH y3 K x hv V y2 Z hi y C F z z7 z6 a6 zp k5 y7 y6 g3 h k0 c hS y0;go_enter func129,ntmps129
  go_wp2_with fail
  refine s.mono ?_;rintro e W2 ⟨rfl,g,v,d⟩;obtain⟨j2,o2⟩:=RK.o W2 d;have m3:=(y5.o W2 o2).2.1;have N:=HP.o _ _ g j2.1 b2;rw[j1]at m3 N;go_wp2_with fail
  refine N.mono ?_;rintro e W3 ⟨rfl,I,i3,L⟩;obtain⟨j3,z3⟩:=a8.o W2 j2 W3 L;have b4:Fr H (Pt (.node W Y A p G)) W2 W3:=L.mono Pt.left;have o3:=dZ o2 b4 Pt.body (fun p c a3 hq=>HU.o.own_r p c hq.2) (Oi HT.o);have m4:=(y5.o W3 o3).2.2;have k7:=HQ.o _ _ I j3 b3;rw[j0]at m4 k7;go_wp2_with fail
  refine k7.mono ?_;rintro e W4 ⟨rfl,h4,i4,x4⟩;go_wp2;go_end0
  obtain⟨g1,g2⟩:=a7.o W2 j2.2.2 W3 W4 L i3 x4 i4;exact⟨rfl,h4,a2.o W2 W4 d v g2 g1⟩
 by_cases T:a.a=12
 ·obtain⟨k0,z⟩:=P (.r T);obtain⟨k4,y8⟩:=hB T;obtain⟨u,pp,E⟩:=k0.g Ox;obtain⟨ao,cp,y9⟩:=k4.w0 Ox;have HR:Hid (vX 76 H O X it D M m U aH r):=y8
  have F:∀ q,iR q b a l r->q.cell? ⟨b,0,none⟩=some (aH l)/\q.cell? ⟨b,1,none⟩=some (aH r):=by
   intro q ho;obtain⟨cs,j,g,I⟩:=bM ho (n:=12) T;exact⟨Og j g,Og j I⟩
  have J:=(F w x).1;have y5:Hid _:=F;have s:=z S w h hi.1 z1;rw[E]at J s;rw[show iV a.a=338 by rw[T];rfl];clear Q y4 P hB hI R hH y3 K x hv V y2 Z hi y C T F z y8 k5 y6 h k0 k4 c hS y0;go_enter func129,ntmps129
  go_wp2_with fail
  refine s.mono ?_;rintro e W2 ⟨rfl,g,v,d⟩;obtain⟨j2,o2⟩:=RK.o W2 d;have m3:=(y5.o W2 o2).2;have N:=HR.o _ _ g j2 g4;rw[y9]at m3 N;go_wp2_with fail
  refine N.mono ?_;rintro e W3 ⟨rfl,I,i3,L⟩;go_wp2;go_end0
  exact⟨rfl,I,a2.o W2 W3 d v L i3⟩
 have k3:a.a=9\/a.a=13\/a.a=14:=Oa
 have g0:r= .nil:=by
  have:sy=99:=by rcases k3 with h|h|h<;>rw[h]at V<;>cases V<;>rfl
  subst this;exact Z.nil_of
 subst g0;obtain⟨k0,z⟩:=Q Oa;obtain⟨u,pp,E⟩:=k0.g Oy;have s:=z S w h hi.1 z1;rw[E]at s;rcases k3 with k9|a4|a5
 ·have J:w.cell? ⟨b,3,none⟩=some (aH l):=by
   obtain⟨cs,j,_,I,_⟩:=bM x (n:=9) k9;rw[cell_of_row _ _ _ _ _ _ j];exact I
  rw[E]at J;rw[show iV a.a=326 by rw[k9];rfl];clear Q y4 P hB hI R hH y3 K x hv V y2 Z hi k9 y C T z k5 y6 h k0 c hS y0;go_enter func129,ntmps129
  go_wp2_with fail
  refine s.mono ?_;rintro e W2 ⟨rfl,g,v,d⟩;go_wp2;go_end0
  exact⟨rfl,g,a2.o W2 W2 d v (Fr.refl _ _ _) trivial⟩
 ·have J:w.cell? ⟨b,0,none⟩=some (aH l):=by
   obtain⟨cs,j,g⟩:=bM x (n:=13) a4;rw[cell_of_row _ _ _ _ _ _ j];exact g
  rw[E]at J;rw[show iV a.a=341 by rw[a4];rfl];clear Q y4 P hB hI R hH y3 K x hv V y2 Z hi a4 y C T z k5 y6 h k0 c hS y0;go_enter func129,ntmps129
  go_wp2_with fail
  refine s.mono ?_;rintro e W2 ⟨rfl,g,v,d⟩;go_wp2;go_end0
  exact⟨rfl,g,a2.o W2 W2 d v (Fr.refl _ _ _) trivial⟩
 ·have J:w.cell? ⟨b,0,none⟩=some (aH l):=by
   obtain⟨cs,j,g⟩:=bM x (n:=14) a5;rw[cell_of_row _ _ _ _ _ _ j];exact g
  rw[E]at J;rw[show iV a.a=344 by rw[a5];rfl];clear Q y4 P hB hI R hH y3 K x hv V y2 Z hi a5 y C T z k5 y6 h k0 c hS y0;go_enter func129,ntmps129
  go_wp2_with fail
  refine s.mono ?_;rintro e W2 ⟨rfl,g,v,d⟩;go_wp2;go_end0
  exact⟨rfl,g,a2.o W2 W2 d v (Fr.refl _ _ _) trivial⟩
theorem aJL{l:Tr}(h0:Ws 4 l)(R:(ps l).Nodup)(hA:sI (fun e=>Ws 2 e/\vX 129 H O X it D M m U aH e) (aD l)):vX 76 H O X it D M m U aH l:=by
 intro S w h hi E;obtain⟨ao,cp,N⟩:=h0.w0 Ox;have a6:=mW Ox h0;have j:=mO Ox h0;have B:(ps (aD l)).Nodup:=by rw[<-j];exact R
 have A:=h0.elems Ox
 have I:bU w (aD l):=by
  cases l with
  |nil=>trivial
  |node=>exact hi.1
 rw[j]at E;have y6:Hid ((ps (aD l)).Nodup):=B;have y5:Hid (Ws 14 (aD l)):=A;have y4:Hid (Ws 4 l):=h0;have y7:Hid (bU w l):=hi;have u:=LpS.start (L:=aD l) h I
 have s:Hid (∀ wr,Fr H (Pt (aD l)) w wr->SiW H O X it D M m U (iD U (aD l) S) wr->bU wr (mU U (aD l) S)->aE3 H O X it D M m U (Pt l) (mU U l S) (iD U l S) w (.returned (.tuple #[])) wr):=by
  intro wr hx n ir;have K:Fr H (Pt l) w wr:=hx.mono fun t a3 F=>⟨F.1,by rw[j];exact F.2⟩;exact⟨rfl,by rw[aGQ Ox h0];exact n,aL2 Ox h0 hi K Pt.body ir,K⟩
 rw[N];clear j B A I h0 R hi h;go_enter func76,ntmps76
 go_wp2_with fail
 go_loopg [8] (aJ l) (fun f a4 wr=>∃ (i:Nat) (J:Sl),a4= Qc i/\i<=aJ l/\aJ l<=i+f/\J.length+(ps (bN i (aD l))).length<=1000000/\LpS H O X it D M m U (aD l) S w i J wr)
 case atStart=>exact⟨0,S,rfl,Qn _,Oa,E,u⟩
 case round=>
  clear u;obtain⟨i,J,rfl,a5,hm,P,c⟩:=hrel;have q:Hid _:=c
  by_cases y2:i < aJ l
  ·have h8:(i:Int) < (aJ l:Int):=Oa
   obtain⟨b2,o2,a2,d,r2,g,k0⟩:=jA i (aD l) (by rw[<-dG];exact y2);have W:=sI.drop i _ hA;rw[g]at W P;obtain⟨y3,⟨k,C⟩,_⟩:=W
   obtain⟨gg,rfl,h6⟩:=pQ Ox y4.o y7.o c.fr Pt.body N g (by
    cases d with
    |nil=>exact absurd k (by unfold Ws eX;omega)
    |node b o a l r=>
     have:=zY k;exact⟨b,o,a,l,r,rfl,Oa,Oa⟩)
   obtain⟨a7,a3,y0⟩:=k.g Ov;have p:=c.rest;rw[g]at p;have Q:=nC b2 o2 a2 d r2;rw[Oh,if_neg (by rw[y3];intro h;exact absurd h.2 Ob)]at Q;have y1:=qH U d J;have Y:Hid ((iD U d J).length+(ps (bN (i+1) (aD l))).length<=1000000):=by rw[Hid,k0];omega
   have x:=C J wr c.rs p.1 Oa;rw[y0]at h6 x;have y:Hid _:=fun w3=>q.o.step (w3:=w3) Ox y5.o y6.o g k0;clear C k g k0 p c Q y1 P;go_wp2_with fail
   refine x.mono ?_;rintro e v ⟨rfl,z,G,Z⟩;obtain⟨f,rfl⟩:∃ f,gk=f+1:=⟨gk - 1,Oa⟩
   have fin:∃ (V:Nat) (J:Sl),Qc ((i:Int)+1)= Qc V/\V<=aJ l/\aJ l<=V+f/\J.length+(ps (bN V (aD l))).length<=1000000/\LpS H O X it D M m U (aD l) S w V J v:=
    ⟨i+1,_,Od,Oa,Oa,Y.o,y.o v z G Z⟩
   clear y q z G Z Y;go_wp2;go_roundg f
   case rel=>exact fin
   case measure=>omega
  ·have h8: ¬(i:Int) < (aJ l:Int):=Oa
   have T:i=bG (aD l):=by rw[<-dG];omega
   have fin:aE3 H O X it D M m U (Pt l) (mU U l S) (iD U l S) w (.returned (.tuple #[])) wr:=by
    subst T;obtain⟨e1,d⟩:=c.fin;have n:=c.rs;rw[e1]at n;exact s.o wr c.fr n d
   clear T c q s;go_wp2;go_end0
   exact fin
theorem aS4:∀ (n:Nat) (t:Tr),szT t<=n->dE H t->(ps t).Nodup->Cv U.length t->
 (Ws 0 t->vX 197 H O X it D M m U aH t)/\(Ws 1 t->vX 199 H O X it D M m U aH t)/\(Ws 2 t->vX 129 H O X it D M m U aH t)/\(Ws 4 t->vX 76 H O X it D M m U aH t)/\
 (Ws 13 t->sI (fun e=>Ws 0 e/\vX 197 H O X it D M m U aH e) t)/\(Ws 14 t->sI (fun e=>Ws 2 e/\vX 129 H O X it D M m U aH e) t):=by
 intro n
 induction n with
 |zero=>intro t h;cases t<;>simp[szT]at h
 |succ n ih=>
  intro t cP w g T;cases t with
  |nil=>
   refine⟨(by grind[Ws,eX]),(by grind[Ws,eX]),(by grind[Ws,eX]),fun h=>?_,fun _=>trivial,fun _=>trivial⟩;exact aJL h g trivial
  |node b o a l r=>
   have J:szT l<=n/\szT r<=n:=by grind[szT]
   obtain⟨B,j⟩:=aBJ w;have K:=fU g;obtain⟨E,s,c3⟩:=T.mk;have k:=ih l J.1 B K.left E;have C:=ih r J.2 j K.right s
   have Y:Ws 3 l->sI (fun e=>Ws 0 e/\vX 197 H O X it D M m U aH e) (aD l):=by
    intro d;rcases d.lst (by omega)with rfl|⟨R,W,Q,A,rfl,V,u⟩
    ·trivial
    ·have S:szT A<=n:=by grind[szT]
     exact(ih A S B.1 (fU K.left).left E.mk.1).2.2.2.2.1 u
   refine⟨fun d=>?_,fun d=>?_,fun d=>?_,fun d=>?_,fun d=>?_,fun d=>?_⟩
   ·obtain⟨P,x,y,h0,I,f⟩:=d.parts;refine aW3 d w g (fun c=>?_) (fun c=>?_) (fun c=>?_)
    ·have:x=0:=by rcases c with h|h|h<;>rw[h]at h0<;>cases h0<;>rfl
     grind
    ·rw[c]at h0;cases h0
     grind[aPY]
    ·have:x=3:=by rw[c]at h0;cases h0;rfl
     grind[aW7]
   ·obtain⟨P,x,y,h0,I,f⟩:=d.parts;refine aW6 d g (fun c=>?_) (fun c=>?_)
    ·rw[c]at h0;cases h0;simp[*]
    ·rw[c]at h0;cases h0;simp[*]
   ·obtain⟨P,x,y,h0,I,f⟩:=d.parts;refine aUQ d w g (fun c=>?_) (fun c=>?_) (fun c=>?_) (fun c=>?_) (fun c=>?_)
    ·have:x=0:=by rcases c with h|h|h|h<;>rw[h]at h0<;>cases h0<;>rfl
     grind
    ·rw[c]at h0;cases h0;simp[*]
    ·have:x=1:=by rcases c with h|h<;>rw[h]at h0<;>cases h0<;>rfl
     grind
    ·rw[c]at h0;cases h0;simp[*]
    ·rw[c]at h0;cases h0;cases r with
     |nil=>grind[Ws,eX]
     |node x y z p q=>
      obtain⟨_,sp,Z,k0,G,F⟩:=f.parts
      have N:z.a=18:=by
       grind[mD]
      rw[N]at k0;cases k0;have L:szT p<=n/\szT q<=n:=by grind[szT]
      have u2:=fU K.right;exact⟨x,y,z,p,q,rfl,N,G,F,(ih p L.1 j.1 u2.left s.mk.1).2.2.2.1 G,(ih q L.2 j.2.1 u2.right s.mk.2.1).2.2.2.1 F⟩
   ·obtain⟨R,W,Q,A,e,V,u⟩:=(d.lst Oa).resolve_left Od;obtain⟨rfl,rfl,rfl,rfl,rfl⟩:=e;exact aJL d g (k.2.2.2.2.2 u)
   ·obtain⟨v,i,f⟩:=bY Oa d;exact⟨v,⟨i,k.1 i⟩,C.2.2.2.2.1 f⟩
   ·obtain⟨v,i,f⟩:=bY Ox d;exact⟨v,⟨i,k.2.2.1 i⟩,C.2.2.2.2.2 f⟩
end
section
variable {H O X:Nat} {it D M:Value} {m:Int} {U:List Tr}
def aBA(s:Nat):Bool:=s==5||s==6||s==15||s==16||s==20||s==21||s==22||s==99
def aMK(o:Option (Nat × Nat)):Bool:=match o with
 |none=>true
 |some (x,y)=>aBA x&&aBA y
theorem aI1:∀ s < 24,∀ n < 21,aBA s=true->aMK (mD s n)=true/\((n==2||n==3||n==6||n==10)=true->(mD s n).isNone=true):=Ob
theorem aCQ{s n x y:Nat}(h:mD s n=some (x,y))(a:aBA s=true):(n≠2/\n≠3/\n≠6/\n≠10)/\aBA x=true/\aBA y=true:=by
 grind[aMK,aI1,aMP,aGG]
theorem aD0{b o:Nat}{a:Nd}{l r:Tr}{S:Sl}(c:a.a≠2/\a.a≠3/\a.a≠6/\a.a≠10):mU U (.node b o a l r) S= .node b o a (mU U l S) (mU U r (iD U l S)):=by
 show BT.node b o {a with f:=qJ U a S (iD U l (gO U a S))} (mU U l (gO U a S)) (mU U r (lH a (iD U l (gO U a S))))=_;rw[(qI (U:=U) (S:=S) (G:=S) c).1,(qI (U:=U) (S:=S) (G:=iD U l S) c).2.1,(qI (U:=U) (S:=S) (G:=iD U l S) c).2.2]
theorem aSM:∀ (t:Tr) (s:Nat),Ws s t->aBA s=true->∀ S,iD U t S=S/\mU U t S=t:=by
 intro t
 induction t with
 |nil=>intro s _ _ S;trivial
 |node b o a l r ihl ihr=>
  intro s c f S;obtain⟨_,x,y,g,d,e⟩:=c.parts
  grind[aCQ,yO,aD0]
def aY(k:Nat):Tr->List Tr
 | .nil=>[]
 | .node _ _ _ e r=>if cB e=k then e::aY k r else aY k r
theorem aFD(k:Nat)(L:Tr):sE k L=(aY k L).map fO:=by
 induction L with
 |nil=>rfl
 |node b o a e r _ ih=>
  show(if cB e=k then _ else _)=(if cB e=k then _ else _:List Tr).map fO
  grind
theorem aGZ{b o:Nat}{a:Nd}{l:Tr}{x y:Nat}{z:Nd}{p q:Tr}{S:Sl}(g:a.a=17)(h:z.a=18)(c:Ws 6 l)(d:Ws 5 p):iD U (.node b o a l (.node x y z p q)) S=iD U q S/\mU U (.node b o a l (.node x y z p q)) S= .node b o a l (.node x y z p (mU U q S)):=by
 have e:=fun S=>aSM (U:=U) l 6 c rfl S;have f:=fun S=>aSM (U:=U) p 5 d rfl S
 grind[yO,aD0]
theorem aPK{b o:Nat}{a:Nd}{l:Tr}{x y:Nat}{z:Nd}{p q:Tr}{S:Sl}{w w':World}(i:a.a=17)(g:z.a=18)(e:Ws 6 l)(c:Ws 5 p)(h:(ps (.node b o a l (.node x y z p q))).Nodup)(hi:bU w (.node b o a l (.node x y z p q)))(f:Fr H (Pt q) w w')(d:bU w' (mU U q S)):
 bU w' (mU U (.node b o a l (.node x y z p q)) S)/\Fr H (Pt (.node b o a l (.node x y z p q))) w w':=by
 have u1:=fU h;have u2:=fU (b:=x) (o:=y) u1.right;rw[(aGZ i g e c).2];have h0:Fr H (Pt (.node x y z p q)) w w':=f.mono Pt.right;refine⟨⟨bU.fr h0 (fun t p c=>(Pt.body t p c).e) e hi.1 (Pt.o u1.apart_),⟨bU.fr f (fun t p c=>(Pt.body t p c).e) c hi.2.1.1 (Pt.o u2.apart_),d,?_⟩,?_⟩,h0.mono Pt.right⟩
 ·unfold iR;rw[g];trivial
 ·have j:=dZ hi.2.2 h0 Pt.body (fun p c Z d=>u1.own_r p c d.2) Oa;exact kK j (Sh.refl _) ⟨rfl,rfl,rfl,rfl,rfl,rfl,rfl,rfl,fun _=>rfl,fun _=>rfl,Sh.refl _,mK _ _ _⟩
theorem aPG{e:Tr}(h:Ws 7 e)(d:cB e≠17):(∀ S,iD U e S=S/\mU U e S=e):=by
 obtain⟨b,o,a,l,r,rfl,i⟩:=jU h;have c:=i.resolve_right d;obtain⟨_,x,y,h0,f,g⟩:=h.parts;rw[c]at h0;cases h0;obtain rfl:=f.nil_of;obtain rfl:=g.nil_of;intro S;rw[yO Oa,aD0 Oa];trivial
variable {L:Tr} {G:Sl} {B wr:World}
theorem LpS.skip(j:Ws 18 L)(p:(ps L).Nodup){J:Sl}:∀ (n i:Nat),bG L - i=n->i<=bG L->LpS H O X it D M m U L G B i J wr->J.length+(ps (bN i L)).length<=1000000->
 ∃ V,V<=bG L/\aY 17 (bN V L)=aY 17 (bN i L)/\LpS H O X it D M m U L G B V J wr/\J.length+(ps (bN V L)).length<=1000000/\(V=bG L\/∃ b o a e r,bN V L= .node b o a e r/\bN (V+1) L=r/\V < bG L/\cB e=17):=by
 intro n
 induction n with
 |zero=>grind
 |succ n ih=>
  intro i w hi h q;obtain⟨b,o,a,e,r,c,h0⟩:=jA i L Oa
  by_cases f:cB e=17
  ·grind
  ·have d:=iB Ot i _ j;rw[c]at d;obtain⟨v,l,_⟩:=bY Ot d;obtain⟨e1,k⟩:=aPG (U:=U) l f J;have g:=h.rest;rw[c]at g;have st:=h.step (w3:=wr) Oa j p c h0 (by rw[e1];exact h.rs) (by rw[k];exact g.1) (Fr.refl _ _ _);rw[e1]at st;have x:=nC b o a e r;obtain⟨V,s,t,u⟩:=ih (i+1) Oa Oa st (by rw[h0];rw[c]at q;omega);refine⟨V,s,?_,u⟩;rw[t,h0,c];exact(if_neg f).symm
theorem aHE.get{w:World}(h:aHE H M U w){j:Nat}{e:Tr}(k:U[j]?=some e):∃ g c b o a l x y z p q,M= Qe g U.length c/\w.cell? ⟨g,j,none⟩=some (Qd b)/\e= .node b o a l (.node x y z p q)/\FnW w b a l p q:=by
 have r:j < U.length:=by
  grind
 obtain⟨b,o,a,l,x,y,z,p,q,e1,i,_⟩:=h.own e Qg
 obtain⟨g,c,f⟩:∃ g c,M= Qe g U.length c:=by
  obtain⟨ao,c,e1,n⟩:=bP h.row
  grind
 have d:=h.row;rw[f]at d;have h0:=d.cellAt j Oa;refine⟨g,c,b,o,a,l,x,y,z,p,q,f,?_,e1,i⟩;rw[h0,List.getElem?_map,k,e1];rfl
theorem aW0:∀ (L:Tr),Ws 18 L->∀ e∈aY 17 L,∀ w,bU w L->∃ b o a l x y z p q,e= .node b o a l (.node x y z p q)/\FnW w b a l p q/\Ws 5 p/\Ws 4 q:=by
 intro L
 induction L with
 |nil=>intro _ e c;cases c
 |node b o a e0 r _ ih=>
  intro A e c w hi;obtain⟨_,f,h0⟩:=bY Ot A;have c:e∈(if cB e0=17 then e0::aY 17 r else aY 17 r):=c
  by_cases d:cB e0=17
  ·rw[if_pos d]at c;rcases List.mem_cons.1 c with rfl|c
   ·obtain⟨b,o,a,l,r,rfl,_⟩:=jU f;obtain⟨C,x,y,z,p,q,rfl,E,u,v⟩:=oD f d;refine⟨b,o,a,l,x,y,z,p,q,rfl,?_,u,v⟩;obtain⟨g,s,t,h,J,K,N,F,I,e,i,j,k⟩:=bM hi.1.2.2 (n:=17) d;obtain⟨rfl,rfl,rfl,rfl,rfl⟩:=e;exact⟨g,s,t,h,i,j,k⟩
   ·exact ih h0 e c w hi.2.1
  ·rw[if_neg d]at c;exact ih h0 e c w hi.2.1
theorem aW5:∀ (i:Nat) (L:Tr) {n:Nat},Cv n L->Cv n (bN i L):=by
 intro i
 induction i with
 |zero=>intro L n h;exact h
 |succ i ih=>
  intro L n h;cases L with
  |nil=>exact h
  |node b o a l r=>exact ih r h.mk.2.1
def aZ3(H O:Nat)(it D M:Value)(m:Int)(U:List Tr)(T:Tr)(w w':World):Prop:=∃ X,SiW H O X it D M m U (iD U T []) w'/\bU w' (mU U T [])/\Fr H (Pt T) w w'
def bA4(H O:Nat)(it D M:Value)(m:Int)(U:List Tr)(T:Tr)(w:World):Ending->World->Prop:=fun e w'=>e= .returned (.tuple #[])/\aZ3 H O it D M m U T w w'
theorem aM5{T:Tr}(p:Ws 8 T)(hF:dE H T)(z8:(ps T).Nodup)(y8:Cv (aY 17 (aD T)).length T)(z7:H<=O)(w:World)(hH:H<=w.1.size)(hi:bU w T)(d:w.1[O]?=some (.cells (yQ it D M m (.slice none 0 0)) 111 (0,0)))(I:w.ownsRow H 106 1 M (aY 17 (aD T)).length ((aY 17 (aD T)).map fO))(g0:(ps T).length<=900000):
 Calls prog 44 #[Qd O] w (bA4 H O it D M m (aY 17 (aD T)) T w):=by
 obtain⟨U,y⟩:∃ U,U=aY 17 (aD T):=⟨_,rfl⟩;rw[<-y]at y8 I ⊢;have hL:=p.elems Ot;have K:=mO Ot p;have k6:(ps (aD T)).Nodup:=by rw[<-K];exact z8
 have k7:=mW Ot p;have g1:=(Oo d)
 have y0:Cv U.length (aD T):=by
  cases T with
  |nil=>trivial
  |node b o a l r=>exact y8.mk.1
 have j5:dE H (aD T):=by
  cases T with
  |nil=>trivial
  |node b o a l r=>exact hF.1
 have a4:∀ w,bU w T->bU w (aD T):=fun w hi=>by
  cases T with
  |nil=>trivial
  |node=>exact hi.1
 have b6:U.length<=10000:=by
  rw[dG]at k7
  have:∀ L:Tr,(aY 17 L).length<=bG L:=by
   intro L
   induction L with
   |nil=>exact Ql _
   |node b o a e r _ ih=>
    show(if cB e=17 then e::aY 17 r else aY 17 r).length<=bG r+1
    split
    ·simp only[List.length_cons];omega
    ·omega
  have:=this (aD T);rw[y];omega
 obtain⟨B,A⟩:∃ B,B=(w.setCell ⟨O,4,none⟩ (.slice none 0 0)).alloc (Qf #[Qd O] 156):=⟨_,rfl⟩;have zs:(w.setCell ⟨O,4,none⟩ (.slice none 0 0)).1.size=w.1.size:=by simp[World.setCell]
 have f1:Fr H F0 w B:=by
  rw[A];refine((Fr.refl H F0 w).set z7 (fun c t ht e=>?_) _ _).alloc _ (by rw[zs];exact hH);rw[d]at e;simp only[Option.some.injEq,Obj.cells.injEq]at e;rw[<-e.2.1]at ht;exact absurd ht (by unfold dH aS;decide)
 have R:bU B T:=bU.fr f1 (fun t s d=>absurd d id) p hi (fun _ _ _ h=>h)
 have y4:B.1[O]?=some (.cells (yQ it D M m (.slice none 0 0)) 111 (0,0)):=by
  rw[A];refine(On (by rw[zs];exact g1)).t ?_;have:=aI (o:=4) (.slice none 0 0) d;exact this
 have s1:SiW H O w.1.size it D M m U [] B:=by
  refine⟨?_,⟨.slice none 0 0,y4,World.ownsRow_nil _ _ _ _⟩,⟨nE I f1 Oz (fun t s d=>absurd d id),fun e he=>?_⟩,hH,z7⟩
  ·rw[A,<-zs];exact Qk _ _
  ·rw[y]at he;exact aW0 (aD T) hL e he B (a4 _ R)
 have L0:=LpS.start (L:=aD T) s1 (a4 _ R);have c4:w.cell? ⟨O,4,none⟩=some (.slice none 0 0):=Og d rfl
 have z4:w.frozen? ⟨O,4,none⟩=false:=by simp[World.frozen?,d]
 have c2:B.cell? ⟨O,2,none⟩=some M:=Og y4 rfl
 obtain⟨ao,cp,y3,_⟩:=bP I
 have a6:Hid (∀ wr,Fr H (Pt (aD T)) B wr->SiW H O w.1.size it D M m U (iD U (aD T) []) wr->bU wr (mU U (aD T) [])->
  aZ3 H O it D M m U T w wr):=by
  intro wr hx P ir;have z3:Fr H (Pt T) B wr:=hx.mono fun t s d=>⟨d.1,by rw[K];exact d.2⟩;exact⟨_,by rw[aGQ Ot p];exact P,aL2 Ot p R z3 Pt.body ir,(f1.mono F0.to).t z3⟩
 have z1:Hid ((ps (aD T)).Nodup):=k6;have z0:Hid (Ws 18 (aD T)):=hL;have g9:Hid (Cv U.length (aD T)):=y0;have g8:Hid (dE H (aD T)):=j5;have g5:([]:Sl).length+(ps (aD T)).length<=1000000:=by rw[<-K];simp only[List.length_nil];omega
 have g2:aY 17 (bN 0 (aD T))=U.drop 0:=by rw[y];rfl
 rw[y3]at c2;have g7:Hid (M= .slice ao U.length cp):=y3;clear y8 z8 hF p hL K k6 k7 y0 j5 y4 s1 R f1 hi a4 I g0 zs y y3;go_enter func44,ntmps44
 go_upto_region 2 with fail
 rw[<-A];clear A d c4 z4;go_wp2_with fail
 go_loopg [15] U.length (fun v a8 wr=>∃ (j i:Nat) (J:Sl),a8= Qc j/\j<=U.length/\U.length<=j+v/\i<=bG (aD T)/\aY 17 (bN i (aD T))=U.drop j/\J.length+(ps (bN i (aD T))).length<=1000000/\LpS H O w.1.size it D M m U (aD T) [] B i J wr)
 case atStart=>exact⟨0,0,[],rfl,Qn _,Oa,Qn _,g2,g5,L0⟩
 case round=>
  clear L0;obtain⟨j,i0,J,rfl,b8,hm,j1,hk,hb,a7⟩:=hrel;obtain⟨i,b7,n,f,j3,E⟩:=a7.skip z0.o z1.o _ i0 rfl j1 hb;rw[hk]at n;clear hk hb a7 j1;have z2:Hid _:=f
  by_cases b9:j < U.length
  ·have y5:(j:Int) < (U.length:Int):=Oa
   obtain⟨b2,o2,a2,k,x,u,z,g3,h0⟩:=E.resolve_left (fun e=>by
    rw[e,nP]at n;have:=congrArg List.length n;rw[List.length_drop]at this;simp only[aY,List.length_nil]at this;omega)
   have y6:U[j]?=some k/\aY 17 x=U.drop (j+1):=by
    rw[u]at n;have z9:k::aY 17 x=U.drop j:=by rw[<-n];exact(if_pos h0).symm
    constructor
    ·have:=congrArg (fun l=>l[0]?) z9;simp only[List.getElem?_cons_zero,List.getElem?_drop,Nat.add_zero]at this;exact this.symm
    ·have:=congrArg List.tail z9;simpa[List.tail_drop]using this
   obtain⟨h9,h8⟩:=y6;obtain⟨g,b3,b,o,a,l,W,Y,Z,s,q,F,b5,g4,j2⟩:=f.rs.fns.get h9;subst g4;have y2:=iB Ot i _ z0.o;have a3:=pJ i _ z1.o;have y9:=aW5 i _ g9.o;have y7:=pB i _ g8.o;have C:=f.rest;rw[u]at y2 a3 y9 y7 C j3;obtain⟨j6,z5,_⟩:=bY Ot y2;obtain⟨N,x',y',z',p',q',e,Q,d,hq⟩:=oD z5 h0;simp only[BT.node.injEq]at e;obtain⟨rfl,rfl,rfl,rfl,rfl⟩:=e;have a5:(ps (.node b o a l (.node W Y Z s q))).Nodup:=(fU a3).left;have u2:=fU (fU a5).right;have j4:=(aS4 (H:=H) (O:=O) (X:=w.1.size) (it:=it) (D:=D) (M:=M) (m:=m) (U:=U) (szT q) q Ol y7.1.2.1.2.1 u2.right y9.mk.1.mk.2.1.mk.2.1).2.2.2.1 hq;have e1:=nC b2 o2 a2 (.node b o a l (.node W Y Z s q)) x;rw[Oh,if_neg (by rw[j6];intro h;exact absurd h.2 Ob)]at e1;have k:=nC b o a l (.node W Y Z s q);have e3:=nC W Y Z s q;have k0:=j4 J wr f.rs C.1.2.1.2.1 Oa;have j9:=qH U q J;have j8:Hid ((iD U q J).length+(ps (bN (i+1) (aD T))).length<=1000000):=by rw[Hid,z];omega
   have k4:Hid (∀ w3,SiW H O w.1.size it D M m U (iD U q J) w3->bU w3 (mU U q J)->Fr H (Pt q) wr w3->LpS H O w.1.size it D M m U (aD T) [] B (i+1) (iD U q J) w3):=fun w3 k1 k2 k3=>by
    obtain⟨d1,d2⟩:=aPK (U:=U) h0 Q N d a5 C.1 k3 k2;have st:=z2.o.step (w3:=w3) Ot z0.o z1.o u z (by rw[(aGZ h0 Q N d).1];exact k1) d1 d2;rw[(aGZ h0 Q N d).1]at st;exact st
   obtain⟨a9,b4,z6⟩:=hq.w0 Ox;obtain⟨_,_,_,_,k5,_,_⟩:=j2.cells;rw[z6]at k5 k0;have j7:Hid (aY 17 (bN (i+1) (aD T))=U.drop (j+1)):=by rw[Hid,z];exact h8
   have g6:ao=some ⟨g,0,none⟩:=by
    rw[g7.o]at F;simp only[Value.slice.injEq]at F;exact F.1
   subst g6;clear j4 u z f j9 j3 e1 k e3 C y7 y9 a5 u2 a3 y2 z5 N d hq Q h9 h8 n h0 E z6 j2 F j6;go_wp2_with fail
   refine k0.mono ?_;rintro e W3 ⟨rfl,h3,i3,x3⟩;obtain⟨v,rfl⟩:∃ v,gk=v+1:=⟨gk - 1,Oa⟩
   have fin:∃ (S V:Nat) (J:Sl),Qc ((j:Int)+1)= Qc S/\S<=U.length/\U.length<=S+v/\V<=bG (aD T)/\aY 17 (bN V (aD T))=U.drop S/\J.length+(ps (bN V (aD T))).length<=1000000/\LpS H O w.1.size it D M m U (aD T) [] B V J W3:=
    ⟨j+1,i+1,_,Od,Oa,Oa,Oa,j7.o,j8.o,k4.o W3 h3 i3 x3⟩
   clear k4 z2 h3 i3 x3 j8 j7;go_wp2;go_roundg v
   case rel=>exact fin
   case measure=>omega
  ·have y5: ¬(j:Int) < (U.length:Int):=Oa
   have j0:i=bG (aD T):=by
    rcases E with h|⟨b2,o2,a2,k,x,u,z,g3,h0⟩
    ·exact h
    ·exfalso;rw[u,List.drop_eq_nil_of_le Oa]at n;have:(if cB k=17 then k::aY 17 x else aY 17 x)=[]:=n;rw[if_pos h0]at this;cases this
   have fin:aZ3 H O it D M m U T w wr:=by
    subst j0;obtain⟨e1,k⟩:=f.fin;have P:=f.rs;rw[e1]at P;exact a6.o wr f.fr P k
   clear j0 f z2 a6 E n;go_wp2;go_end0
   exact⟨rfl,fin⟩
end
section
structure Wd(c:dI):Prop where
 lt:∀ t∈c.words,0<=t.e/\t.e < c.start
 up:(c.words.map aU.e).Pairwise (·< ·)
 f:∀ t∈c.words,t.f.size<=c.f.size
 vals:∀ t∈c.words,0<=t.a/\t.a<=999999999
theorem aH1(s:ByteArray)(a b:Nat):(s.extract a b).size<=s.size:=by
 rw[ByteArray.size_extract];omega
theorem aH0{c:dI}{p:Nat}(h:aAO c p):(c.d0 p).words=c.words\/(c.mode≠0/\∃ k v t,(c.d0 p).words=c.words++[⟨k,c.start,t,v⟩]/\t.size<=c.f.size/\0<=v/\v<=999999999):=by
 unfold dI.d0
 by_cases b:c.mode=2
 ·rw[if_pos b];unfold dI.named dI.push;have:=c.fail_text 1 c.start
  split
  ·simp[*]
  ·split
   ·exact .r ⟨Oa,_,_,_,rfl,Qn _,Oa,Oa⟩
   grind[aH1]
 rw[if_neg b]
 by_cases a:c.mode=3
 ·rw[if_pos a];unfold dI.number dI.push;have:=c.fail_text 3 c.start;have e:=wT _ (h.digits a)
  split
  ·simp[*]
  ·exact .r ⟨Oa,_,_,_,rfl,Qn _,e.1,Oa⟩
 rw[if_neg a]
 by_cases d:c.mode=4
 ·rw[if_pos d];unfold dI.sign dI.push;have:=c.fail_text 1 c.start
  split
  ·exact .r ⟨Oa,_,_,_,rfl,Qn _,Oa,Oa⟩
  simp[*]
 simp[*]
theorem aFV{c:dI}{p:Nat}(f:aAO c p)(h:Wd c):(∀ t∈(c.d0 p).words,0<=t.e/\t.e < p)/\((c.d0 p).words.map aU.e).Pairwise (·< ·)/\(∀ t∈(c.d0 p).words,t.f.size<=c.f.size/\0<=t.a/\t.a<=999999999)/\(c.d0 p).words.length<=p:=by
 have s:=f.lo;have r:=f.hi;have q:=f.count;rcases aH0 f with e|⟨j,v,w,t,e,l,n,o⟩
 ·rw[e];exact⟨fun t d=>Oi (h.lt t d),h.up,fun t d=>⟨h.f t d,h.vals t d⟩,Oa⟩
 ·have u:=f.some_ j;rw[e];refine⟨fun t d=>?_,?_,fun t d=>?_,Qg⟩
  ·rcases List.mem_append.1 d with d|d
   ·have:=h.lt t d;omega
   grind
  ·rw[List.map_append];refine List.pairwise_append.2 ⟨h.up,Od,fun a i b g=>?_⟩;obtain⟨k,h0,rfl⟩:=List.mem_map.1 i;simp only[List.map_cons,List.map_nil,List.mem_singleton]at g;subst g;exact(h.lt k h0).2
  ·rcases List.mem_append.1 d with d|d
   ·exact⟨h.f t d,h.vals t d⟩
   grind
theorem aUS{c:dI}{p:Nat}{r:Int}(a:aAO c p)(h:Wd c):Wd (c.step p r):=by
 unfold dI.step
 split
 ·exact h
 ·obtain⟨b1,b,d,_⟩:=(c.d0 p).begins_keeps p r;obtain⟨f1,_⟩:=c.z0 p;obtain⟨e,f,g,_⟩:=aFV a h;refine⟨?_,?_,?_,?_⟩
  ·grind
  ·simp[*]
  ·grind
  grind
structure aX8(s:ByteArray)(l:List aU):Prop where
 lt:∀ t∈l,0<=t.e/\t.e < s.size
 up:(l.map aU.e).Pairwise (·< ·)
 f:∀ t∈l,t.f.size<=s.size
 vals:∀ t∈l,0<=t.a/\t.a<=999999999
 few:l.length<=s.size
theorem aXX(s:ByteArray):∀ (n:Nat) (c:dI) (p:Nat),c.f=s->aAO c p->Wd c->s.size - p < n->(c.run n p).a=0->aX8 s (c.run n p).words:=by
 intro n
 induction n with
 |zero=>omega
 |succ n ih=>
  intro c p e b h o a;unfold dI.run at a ⊢;rw[e]at a ⊢
  by_cases d:p < s.size
  ·rw[if_pos d]at a ⊢
   by_cases h0:(c.step p (Utf8.decode s p).1).a=0
   ·rw[Oh]at a ⊢;have q:=Lib.decode_width_pos s p d;obtain⟨f1,l⟩:=b.step Qh Qh
    grind[aUS]
   grind
  ·rw[if_neg d];obtain⟨f,g,i,j⟩:=aFV b h;have k:=b.le;rw[e]at k i;have:p=s.size:=Oa
   subst this;exact⟨f,g,Qg,Qg,j⟩
theorem aLN(s:ByteArray)(a:(eI s).a=0):aX8 s (eI s).words:=
 aXX s _ _ 0 rfl (aAO.start s) ⟨Od,.nil,Od,Od⟩ Oa a
def cE(s:ByteArray):List aU:=(eI s).words++[⟨0,s.size,ByteArray.mk #[],0⟩]
theorem qS(s:ByteArray):eD (cE s):=by
 grind[eD,cE]
theorem uD{s:ByteArray}(b:(eI s).a=0)(c:s.size<=4000):fX (cE s):=by
 have h:=aLN s b;refine⟨fun t a=>?_,fun t a=>?_,?_⟩
 ·rcases List.mem_append.1 a with a|a
  ·exact Qm (h.f t a) c
  ·simp only[List.mem_singleton]at a;subst a;exact Qn _
 ·rcases List.mem_append.1 a with a|a
  ·exact h.vals t a
  grind
 ·have:=h.few
  grind[cE]
theorem aME{s:ByteArray}(e:(eI s).a=0):((cE s).map aU.e).Pairwise (·< ·):=by
 have h:=aLN s e;unfold cE;rw[List.map_append];refine List.pairwise_append.2 ⟨h.up,Od,fun a d b c=>?_⟩;obtain⟨t,f,rfl⟩:=List.mem_map.1 d;simp only[List.map_cons,List.map_nil,List.mem_singleton]at c;subst c;exact(h.lt t f).2
theorem aZP{T:List aU}(u:(T.map aU.e).Pairwise (·< ·)){l:List Int}(h:Sg T 0 T.length l):l.Nodup/\l.length<=T.length:=by
 obtain⟨_,f,rfl,c,p⟩:=h
 have key:∀ i j,i < j->j < T.length->(aE T i).e < (aE T j).e:=by
  grind[aE,Nat.lt_trans,List.pairwise_iff_getElem,List.length_map,List.getElem?_eq_getElem]
 constructor
 ·rw[List.Nodup,List.pairwise_map];refine c.imp_of_mem fun {a b} _ q o=>?_
  grind
 ·rw[List.length_map];have s:f.Nodup:=c.imp Oa;have t:f ⊆ List.range T.length:=Qg
  have r:∀ (l m:List Nat),l.Nodup->l ⊆ m->l.length<=m.length:=by
   intro l
   induction l with
   |nil=>simp
   |cons a l ih=>
    intro m g k;have n:a∈m:=Qg;have h0:=List.nodup_cons.1 g;have:=ih (m.erase a) h0.2 (fun x d=>(List.mem_erase_of_ne (fun e=>by subst e;exact h0.1 d)).2 (k (by simp[d])))
    grind
  grind
theorem aVO:∀ t:Tr,fT t<=(ps t).length:=by
 intro t
 induction t with
 |nil=>trivial
 |node b o a l r ihl ihr=>
  rw[iH,nC]
  by_cases c:a.a=9
  ·rw[if_pos c,Oh,if_pos ⟨Oa,by rw[c];rfl⟩];omega
  grind
variable {F:dB} {its:List Tr}
def vU:Tr->Nat
 | .nil=>0
 | .node _ _ _ l _=>aJ l
def oM(t:Tr)(k:Nat):Option Nat:=((aY 17 (aD t)).map vU)[k]?
def yZ(t:Tr):Nat:=(aY 16 (aD t)).length
def aUA(par:Nat->Option Nat)(na:Nat)(e:Tr):Prop:=∃ b o a l x y z p q,e= .node b o a l (.node x y z p q)/\a.a=17/\z.a=18/\Vd par na 12 p/\Vd par na 12 q/\aJ l<=4
def aZ9(e:Tr):Prop:=∃ b o a l r,e= .node b o a l r/\a.a=16/\a.c < 6/\1<=a.g/\a.g<=64
theorem aDE(k:Nat)(L:Tr):aY k L=(oJ L).filter fun e=>cB e==k:=by
 induction L with
 |nil=>rfl
 |node b o a e r _ ih=>
  grind[cB,aY,oJ]
theorem aP8(e:Tr)(n:Int):vU (jC e n)=vU e:=by cases e<;>rfl
theorem aIW:∀ (L:Tr) (Y R:Nat),Ws 18 L->(aY 17 (hY L Y R)).map vU=(aY 17 L).map vU/\(aY 16 (hY L Y R)).length=(aY 16 L).length:=by
 intro L
 induction L with
 |nil=>intro _ _ _;trivial
 |node b o a e r _ ih=>
  intro Y R d;obtain⟨_,c,h0⟩:=bY Ot d;obtain⟨i,_⟩:=wV c;unfold hY
  by_cases h:cB e=16
  ·rw[if_pos h];obtain⟨f,g⟩:=ih (Y+1) R h0;constructor
   ·show(if cB (jC e Y)=17 then _ else _:List Tr).map vU=(if cB e=17 then _ else _:List Tr).map vU
    grind[iN]
   ·show(if cB (jC e Y)=16 then _ else _:List Tr).length=(if cB e=16 then _ else _:List Tr).length
    grind[iN,List.length_cons]
  ·rw[if_neg h];obtain⟨f,g⟩:=ih Y (R+1) h0;constructor
   ·show(if cB (jC e R)=17 then _ else _:List Tr).map vU=(if cB e=17 then _ else _:List Tr).map vU
    grind[iN,aP8]
   ·show(if cB (jC e R)=16 then _ else _:List Tr).length=(if cB e=16 then _ else _:List Tr).length
    grind[iN]
theorem aYY:∀ (L:Tr) (Y R j:Nat) (e:Tr),Ws 18 L->(aY 16 (hY L Y R))[j]?=some e->mJ e=((Y+j:Nat):Int):=by
 intro L
 induction L with
 |nil=>intro Y R j e _ h;cases h
 |node b o a e0 r _ ih=>
  intro Y R j e d h;obtain⟨_,h0,i⟩:=bY Ot d;obtain⟨g,f⟩:=wV h0;unfold hY at h
  by_cases c:cB e0=16
  ·rw[if_pos c]at h;have h:(if cB (jC e0 Y)=16 then jC e0 Y::aY 16 (hY r (Y+1) R)else aY 16 (hY r (Y+1) R))[j]?=some e:=h
   grind[iN,List.getElem?_cons_zero,Option.some.injEq,lL,List.getElem?_cons_succ]
  grind[cB,jC,aY,hY,iN]
theorem zM{s:Rs}{i:Nat}{p:Int}(h:(s.s0 i p).a=0):s.s0 i p=s/\i < 4:=by
 grind[Rs.s0,gR]
theorem aTB{s:Rs}{a:Nd}(h:(s.few a).a=0):s.few a=s:=by
 grind[Rs.few,gR]
theorem aCI{s:Rs}{a:Nd}{i:Nat}(h:(s.r0 F a i).a=0):s.r0 F a i=s:=by
 grind[Rs.r0,dP,gR]
theorem aU3{s:Rs}{a:Nd}(h:(s.arr a).a=0):s.a=0/\a.c < 6/\1<=a.g/\a.g<=64:=by
 grind[Rs.arr,qF,Rs.six,gR]
theorem aS7{s:Rs}{x:ByteArray}{p:Int}(b:rY s)(h:(s.param x p).a=0):rY (s.param x p)/\(s.param x p).b.length=s.b.length+1/\s.a=0/\s.b.length < 4:=by
 have a:(s.k0 x p 4).a=0:=h
 grind[Rs.param,sQ,aIU]
theorem aVA:∀ (L:Tr) (s:Rs),rY s->(kU L s).a=0->rY (kU L s)/\(kU L s).b.length=s.b.length+bG L/\s.a=0/\(s.b.length<=4->s.b.length+bG L<=4):=by
 intro L
 induction L with
 |nil=>intro s c h;exact⟨c,rfl,h,fun h=>h⟩
 |node b o a e r _ ih=>
  intro s c h;have h:(kU r (s.param (cC e) (lI e))).a=0:=h
  have f:∀ (L:Tr) (s:Rs),(kU L s).a=0->s.a=0:=by
   intro L
   induction L with
   |nil=>intro s h;exact h
   |node b o a e r _ ih=>
    intro s h;have:=ih _ h
    exact(show s.a=0 by
     have d:(s.k0 (cC e) (lI e) 4).a=0:=this
     grind[sQ])
  grind[kU,bG,aS7]
theorem aXG{par:Nat->Option Nat}{k:Nat}(g:aJU F its par k):∀ (L:Tr) (i:Nat) (s:Rs),Ws 15 L->rY s->(vD F its L i s).a=0->rY (vD F its L i s)/\s.a=0/\Vd par k 12 (whT F its L i s):=by
 intro L
 induction L with
 |nil=>intro i s _ j h;trivial
 |node b o a e r _ ih=>
  intro i s z j h;obtain⟨P,v,t⟩:=bY Ov z
  have E:∀ (L:Tr) (i:Nat) (s:Rs),(vD F its L i s).a=0->s.a=0:=by
   intro L
   induction L with
   |nil=>intro i s h;exact h
   |node b o a e r _ ih=>
    intro i s h;have c:=nX _ _ (ih _ _ h)
    grind[zM,nX]
  have h:(vD F its r (i+1) (eE F its (tP e) ((eE F its (oK e) s).s0 i (oU e)))).a=0:=h;have c:=E _ _ _ h;have f:=nX _ _ c;obtain⟨d,_⟩:=zM f;rw[d]at h c f;cases e with
  |nil=>grind[Ws,eX]
  |node b2 o2 a2 x y=>
   obtain⟨_,Q,R,h0,A,C⟩:=v.parts
   have w:a2.a=7:=by
    grind[mD]
   rw[w]at h0;cases h0;obtain⟨l,S,I⟩:=aK2 g x 21 s A f j;obtain⟨n,T,J⟩:=aK2 g y 21 _ C c l;obtain⟨K,_,N⟩:=ih (i+1) _ t n h
   have u:whT F its (.node b o a (.node b2 o2 a2 x y) r) i s= .node b o a (.node b2 o2 a2 (pI F its x s) (pI F its y (eE F its x s))) (whT F its r (i+1) (eE F its y (eE F its x s))):=by
    show BT.node b o a (aEO _ _ (pI F its y ((eE F its x s).s0 i a2.e))) (whT F its r (i+1) (eE F its y ((eE F its x s).s0 i a2.e)))=_;rw[show(eE F its x s).s0 i a2.e=eE F its x s from d];rfl
   have q:vD F its (.node b o a (.node b2 o2 a2 x y) r) i s=vD F its r (i+1) (eE F its y (eE F its x s)):=by
    show vD F its r (i+1) (eE F its y ((eE F its x s).s0 i a2.e))=_;rw[show(eE F its x s).s0 i a2.e=eE F its x s from d]
   rw[u,q];have f1:=l.few;have p:=n.few;refine⟨K,Qg,⟨I.mono f1,J.mono p,Oa,Oa,Oa⟩,N,Oa,Oa,Oa⟩
theorem aQO{par:Nat->Option Nat}{c Z s:Nat}{p L:Tr}(d:s=3\/s=4\/s=5\/s=6\/s=8)(e:Ws s p)(h:Vd par c Z L):Vd par c Z (nI p L):=by
 rcases e.lst d with rfl|⟨b,o,a,l,rfl,f,_⟩
 ·trivial
 ·exact⟨h,trivial,Oa,Oa,Oa⟩
theorem aDD{s:Nat}{p L:Tr}(c:s=3\/s=4\/s=5\/s=6\/s=8)(d:Ws s p)(h:bG L=bG (aD p)):aJ (nI p L)=aJ p:=by
 rcases d.lst c with rfl|⟨b,o,a,l,rfl,e,_⟩
 ·rfl
 ·exact h
theorem aYF{par:Nat->Option Nat}{t:Nat}(g:aJU F its par t){e:Tr}{i:Nat}{s:Rs}(k:Ws 7 e)(h:(itR F its e i s).a=0):s.a=0/\(cB e=17->aUA par t (itT F its e i s))/\(cB e=16->aZ9 (itT F its e i s)):=by
 obtain⟨b,o,a,l,r,rfl,c⟩:=jU k;rcases c with c|c
 ·have e1:itR F its (.node b o a l r) i s=(s.r0 F a i).arr a:=if_pos c;rw[e1]at h;obtain⟨f,v,w,A⟩:=aU3 h;rw[aCI f]at f;refine⟨f,fun e=>by have:a.a=17:=e;omega,fun _=>?_⟩;rw[show itT F its (.node b o a l r) i s= .node b o a l r from if_pos c];exact⟨b,o,a,l,r,rfl,c,v,w,A⟩
 ·obtain⟨I,x,y,z,p,q,rfl,K,j,J⟩:=oD k c;have e1:itR F its (.node b o a l (.node x y z p q)) i s=fnR F its (.node b o a l (.node x y z p q)) (s.r0 F a i):=Oh;rw[e1]at h;have u:itT F its (.node b o a l (.node x y z p q)) i s=fnT F its (.node b o a l (.node x y z p q)) (s.r0 F a i):=Oh;rw[u];generalize C:s.r0 F a i=d at h ⊢;have h:(eE F its q (fnS F its a l p d).2).a=0:=h;have N:=nX _ _ h;have n:(vD F its (aD p) 0 (kU (aD l) (d.few a).clear)).a=0:=N;have V:rY (d.few a).clear:=⟨(fun x i h=>by cases h),by show 0<=12;omega⟩
  have h0:∀ (L:Tr) (i:Nat) (s:Rs),(vD F its L i s).a=0->s.a=0:=by
   intro L
   induction L with
   |nil=>intro i s h;exact h
   |node b o a e r _ ih=>
    intro i s h;have f:=nX _ _ (ih _ _ h)
    grind[zM,nX]
  obtain⟨P,Z,Q,R⟩:=aVA (aD l) _ V (h0 _ _ _ n);obtain⟨W,_,Y⟩:=aXG g (aD p) 0 _ (j.elems Oa) P n;obtain⟨S,q2,T⟩:=aK2 g q 4 _ J h W;have c0:(d.few a).a=0:=Q;rw[aTB c0]at c0;rw[<-C]at c0;have c1:=aCI c0;rw[c1]at c0;refine⟨c0,fun _=>?_,fun e=>by have:a.a=16:=e;omega⟩;have f1:=S.few;refine⟨b,o,_,_,x,y,z,_,_,rfl,c,K,aQO Oa j Y,T.mono f1,?_⟩;have E:=rF (aD l) (d.few a).clear;rw[aDD Ou I E.1,dG];have:=R (by show 0<=4;omega);omega
theorem aVT{par:Nat->Option Nat}{c:Nat}(g:aJU F its par c):∀ (L:Tr) (i:Nat) (s:Rs),Ws 18 L->(uT F its L i s).a=0->s.a=0/\(∀ e∈aY 17 (nG F its L i s),aUA par c e)/\(∀ e∈aY 16 (nG F its L i s),aZ9 e):=by
 intro L
 induction L with
 |nil=>intro i s _ h;exact⟨h,fun e h=>(by cases h),fun e h=>(by cases h)⟩
 |node b o a e0 r _ ih=>
  intro i s j h;obtain⟨_,f,h0⟩:=bY Ot j;obtain⟨d,k,l⟩:=ih _ _ h0 h;obtain⟨n,p,q⟩:=aYF g f d
  grind[cB,itT,aY,nG,itR,aA8]
end
section
variable {F:dB} {its:List Tr} {H O:Nat}
theorem aSZ{t:Tr}(n:Ws 8 t):aJU (cL t) (eH t) (oM t) (yZ t):=by
 have f:=n.elems Oa;obtain⟨k,p⟩:=aIW (aD t) 0 0 f
 have i:∀ x e,iU (cL t) (eH t) x=some e->e∈oJ (hY (aD t) 0 0):=by
  intro x e h;obtain⟨q,_,hi⟩:=Option.bind_eq_some_iff.1 h;exact Qr hi
 constructor
 ·intro x e h;unfold iK at h;cases hm:iU (cL t) (eH t) x with
  |none=>grind
  |some e0=>
   rw[hm]at h;cases e0 with
   |nil=>cases h
   |node b o a l r=>
    dsimp only at h
    by_cases c:a.a=16
    ·rw[if_pos c]at h;cases h;obtain⟨j,g,d⟩:=aNT (aD t) 0 0 _ f (i _ _ hm) c
     grind[aX7,oJ,hY,aD,aY,yZ,aDE]
    grind
 ·intro x b o a l r h;unfold eG at h;cases hm:iU (cL t) (eH t) x with
  |none=>grind
  |some e0=>
   rw[hm]at h;cases e0 with
   |nil=>cases h
   |node b' o' a' l' r'=>
    dsimp only at h
    by_cases c:a'.a=17
    ·rw[if_pos c]at h;cases h;obtain⟨j,g,d⟩:=aHK (aD t) 0 0 _ f (i _ _ hm) c;have e1:aT7 (oJ (hY (aD t) 0 0))=aY 17 (hY (aD t) 0 0):=(aDE 17 _).symm;have d:a.c=((0+j:Nat):Int):=d;rw[d];refine⟨Oa,?_⟩;rw[show(((0+j:Nat):Int)).toNat=j by omega];unfold oM;rw[<-k,<-e1,List.getElem?_map,g];rfl
    grind
theorem pD{t:Tr}(c:Ws 8 t):aD (aA1 t)=nG (cL t) (eH t) (hY (aD t) 0 0) 0 rs0:=by
 rcases c.lst (by omega)with rfl|⟨b,o,a,l,rfl,ht,_⟩
 ·rfl
 ·rfl
theorem aOQ(e:Tr)(n:Int):fO (jC e n)=fO e:=by cases e<;>rfl
theorem aV8(k:Nat):∀ (L:Tr) (Y R:Nat),(aY k (hY L Y R)).map fO=(aY k L).map fO:=by
 intro L
 induction L with
 |nil=>intro _ _;rfl
 |node b o a e r _ ih=>
  intro Y R
  have key:∀ (n:Int) (X:List Tr),X.map fO=(aY k r).map fO->(if cB (jC e n)=k then jC e n::X else X:List Tr).map fO=(if cB e=k then e::aY k r else aY k r:List Tr).map fO:=by
   grind[iN,aOQ]
  unfold hY
  split
  ·exact key _ _ (ih _ _)
  ·exact key _ _ (ih _ _)
theorem aT1{e:Tr}(i:Nat)(s:Rs)(h:Ws 7 e):cB (itT F its e i s)=cB e/\fO (itT F its e i s)=fO e/\vU (itT F its e i s)=vU e/\(cB e=16->itT F its e i s=e):=by
 obtain⟨b,o,a,l,r,rfl,c⟩:=jU h;rcases c with c|c
 ·grind[itT]
 ·obtain⟨f,x,y,z,p,q,rfl,k,g,j⟩:=oD h c;have d:itT F its (.node b o a l (.node x y z p q)) i s=fnT F its (.node b o a l (.node x y z p q)) (s.r0 F a i):=Oh;rw[d];exact⟨rfl,rfl,aDD Ou f (rF (aD l) _).1,fun e=>by have:a.a=16:=e;omega⟩
theorem aFO:∀ (L:Tr) (i:Nat) (s:Rs),Ws 18 L->(aY 17 (nG F its L i s)).map vU=(aY 17 L).map vU/\aY 16 (nG F its L i s)=aY 16 L/\(aY 17 (nG F its L i s)).map fO=(aY 17 L).map fO:=by
 intro L
 induction L with
 |nil=>intro _ _ _;trivial
 |node b o a e r _ ih=>
  intro i s c;obtain⟨_,d,f⟩:=bY Ot c
  grind[itR,aY,nG,cB,itT,aT1]
structure aE2(t T:Tr)(m:Int):Prop where
 fns:∀ e∈aY 17 (aD T),aUA (oM t) (yZ t) e
 par:(aY 17 (aD T)).map vU=(aY 17 (aD t)).map vU
 arrs:∀ e∈aY 16 (aD T),aZ9 e
 na:(aY 16 (aD T)).length=yZ t
 few:yZ t<=6
 main:∃ j:Nat,m=j/\j < (aY 17 (aD T)).length
theorem aN0{t:Tr}{n:Int}(h:Ws 8 t)(g:(fZ t n).a=0):aE2 t (aA1 t) (vQ t):=by
 have f:=h.elems Oa;have j:=aSZ h
 have i:(eG (cL t) (eH t) gJ).isSome:=by
  grind[fZ,eG,cL,eH,gJ,gR]
 have u:(uT (cL t) (eH t) (hY (aD t) 0 0) 0 rs0).a=0:=by
  unfold fZ at g;rw[if_pos i]at g;exact g
 have k:Ws 18 (hY (aD t) 0 0):=pS f;obtain⟨_,I,x⟩:=aVT j _ _ _ k u;obtain⟨y,c⟩:=aIW (aD t) 0 0 f;obtain⟨E,p,_⟩:=aFO (F:=cL t) (its:=eH t) (hY (aD t) 0 0) 0 rs0 k;refine⟨by grind[pD],by grind[pD],by grind[pD],by rw[pD h,p,c];rfl,?_,?_⟩
 ·rw[<-p]at c;have e0:yZ t=(aY 16 (nG (cL t) (eH t) (hY (aD t) 0 0) 0 rs0)).length:=c.symm;rcases Nat.eq_zero_or_pos (yZ t)with h0|h0
  ·omega
  ·have s:yZ t - 1 < (aY 16 (nG (cL t) (eH t) (hY (aD t) 0 0) 0 rs0)).length:=Oa
   obtain⟨b,o,a,l,r,e1,_,C,_⟩:=x _ (List.getElem_mem s)
   have q:(aY 16 (hY (aD t) 0 0))[yZ t - 1]?=some (aY 16 (nG (cL t) (eH t) (hY (aD t) 0 0) 0 rs0))[yZ t - 1]:=by
    simp[*]
   have d:=aYY (aD t) 0 0 _ _ f q;rw[e1]at d;have d:a.c=((0+(yZ t - 1):Nat):Int):=d;omega
 ·obtain⟨e,w⟩:=Option.isSome_iff_exists.1 i;have v:vQ t=mJ e:=by grind[vQ]
  cases e with
  |nil=>
   grind[eG,iU,cL,eH,gJ]
  |node b o a l r=>
   obtain⟨z,A⟩:=j.fn _ _ _ _ _ _ w;refine⟨a.c.toNat,by rw[v];show a.c=_;omega,?_⟩
   grind[aY,aD,vU,oM,List.getElem?_eq_none,pD,List.length_map]
theorem aTI{n:Nat}:∀ (t:Tr) (s:Nat),Ws s t->aBA s=true->Cv n t:=by
 intro t
 induction t with
 |nil=>intro _ _ _;trivial
 |node b o a l r ihl ihr=>
  intro s h g;obtain⟨_,x,y,h0,c,f⟩:=h.parts;obtain⟨d,i,j⟩:=aCQ h0 g;exact⟨ihl x c i,ihr y f j,fun e=>absurd e d.2.1⟩
theorem aX4{par:Nat->Option Nat}{d Z n:Nat}(c:∀ k v,par k=some v->k < n):∀ {t:Tr},Vd par d Z t->Cv n t:=by
 intro t
 induction t with
 |nil=>intro _;trivial
 |node b o a l r ihl ihr=>
  intro⟨h1,h2,_,_,h5⟩;exact⟨ihl h1,ihr h2,fun e=>by have:=h5 e;have:=c _ _ this.2;omega⟩
theorem aY2{t:Tr}{k v:Nat}(h:oM t k=some v):k < (aY 17 (aD t)).length:=by
 grind[aY,aD,oM]
theorem aE2.len{t T:Tr}{m:Int}(h:aE2 t T m):(aY 17 (aD T)).length=(aY 17 (aD t)).length:=by
 have:=congrArg List.length h.par
 grind
theorem aE2.cv{t T:Tr}{m:Int}(h:aE2 t T m)(f:Ws 8 T):Cv (aY 17 (aD T)).length T:=by
 have z:=f.elems Oa
 have key:∀ L:Tr,Ws 18 L->(∀ e∈aY 17 L,aUA (oM t) (yZ t) e)->Cv (aY 17 (aD T)).length L:=by
  intro L
  induction L with
  |nil=>intro _ _;trivial
  |node b o a e r _ ih=>
   intro f c;obtain⟨N,g,Q⟩:=bY Ot f;have c:∀ u∈(if cB e=17 then e::aY 17 r else aY 17 r),aUA (oM t) (yZ t) u:=c;obtain⟨n,q,d,l,s,rfl,E⟩:=jU g
   by_cases i:d.a=17
   ·rw[if_pos (show cB (.node n q d l s)=17 from i)]at c;refine⟨?_,Qg,Oa⟩;obtain⟨_,_,_,R,I,J,W,S,V,e,K,P,w,x,_⟩:=c _ (Qs ..);simp only[BT.node.injEq]at e;obtain⟨rfl,rfl,rfl,rfl,rfl⟩:=e;obtain⟨j,_,_,_,_,_,e,_⟩:=oD g i;have p:∀ k v,oM t k=some v->k < (aY 17 (aD T)).length:=fun k v A=>by rw[h.len];exact aY2 A
    exact⟨aTI l 6 j rfl,⟨aX4 p w,aX4 p x,fun e=>Oa⟩,Oa⟩
   ·rw[if_neg (show ¬cB (.node n q d l s)=17 from i)]at c;refine⟨?_,Qg,Oa⟩;obtain⟨_,I,J,h0,j,C⟩:=g.parts;have y:d.a=16:=Oa;rw[y]at h0;cases h0;obtain rfl:=j.nil_of;obtain rfl:=C.nil_of;exact⟨trivial,trivial,Oa⟩
 have:=key _ z h.fns;rcases f.lst (by omega)with rfl|⟨b,o,a,l,rfl,E,_⟩
 ·trivial
 ·exact⟨this,trivial,Oa⟩
end
section
variable {F:dB} {its:List Tr}
theorem wX(t:Tr):aD (er t)=er (aD t):=by cases t<;>rfl
theorem aMS(e:Tr)(n:Int):jC (er e) n=er (jC e n):=by cases e<;>rfl
theorem aQR(e:Tr):cB (er e)=cB e:=by cases e<;>rfl
theorem aN7(e:Tr):cC (er e)=cC e:=by cases e<;>rfl
theorem aVI(e:Tr):lI (er e)=lI e:=by cases e<;>rfl
theorem aY1(e:Tr):oU (er e)=oU e:=by cases e<;>rfl
theorem aQL(e:Tr):mJ (er e)=mJ e:=by cases e<;>rfl
theorem aRK(t:Tr):oK (er t)=er (oK t):=by cases t<;>rfl
theorem aRJ(t:Tr):tP (er t)=er (tP t):=by cases t<;>rfl
theorem aT5:∀ (L:Tr) (Y R:Nat),hY (er L) Y R=er (hY L Y R):=by
 intro L
 induction L with
 |nil=>intro _ _;rfl
 |node b o a e r _ ih=>
  intro Y R;show(if cB (er e)=16 then _ else _)=er (if cB e=16 then _ else _);rw[aQR,aMS,aMS,ih,ih]
  split<;>rfl
theorem aYK:∀ (L:Tr) (i:Nat) (F:dB),gaF (er L) i F=gaF L i F:=by
 intro L
 induction L with
 |nil=>intro _ _;rfl
 |node b o a e r _ ih=>
  grind[gaF,er,dP,cC,put,aN7]
theorem aXK(L:Tr):oJ (er L)=(oJ L).map er:=by
 induction L with
 |nil=>rfl
 |node b o a e r _ ih=>grind[er,oJ]
theorem aVS(k:Nat)(L:Tr):aY k (er L)=(aY k L).map er:=by
 induction L with
 |nil=>rfl
 |node b o a e r _ ih=>
  show(if cB (er e)=k then er e::aY k (er r)else aY k (er r))=(if cB e=k then e::aY k r else aY k r:List Tr).map er
  grind[aQR]
theorem aIS(x:ByteArray):iU F (its.map er) x=(iU F its x).map er:=by
 unfold iU;cases dP x F with
 |none=>rfl
 |some i=>simp
theorem aLW(x:ByteArray):iK F (its.map er) x=(iK F its x).map er:=by
 unfold iK;rw[aIS];cases iU F its x with
 |none=>rfl
 |some e=>
  cases e with
  |nil=>rfl
  |node b o a l r=>
   grind[er]
theorem aB1(x:ByteArray):eG F (its.map er) x=(eG F its x).map er:=by
 unfold eG;rw[aIS];cases iU F its x with
 |none=>rfl
 |some e=>
  cases e with
  |nil=>rfl
  |node b o a l r=>
   grind[er]
theorem aJH(s:Rs)(x:ByteArray)(p:Int)(n:Nat):s.n0 F (its.map er) x p n=s.n0 F its x p n:=by
 grind[Rs.n0,eG,aJ,er,aB1,aC7]
theorem aHA(s:Rs)(x:ByteArray)(p:Int):s.o0 F (its.map er) x p=s.o0 F its x p:=by
 grind[Rs.o0,iK,aLW]
theorem aXY(a:Nd)(n:Nat)(s:Rs):mH F (its.map er) a n s=mH F its a n s:=by unfold mH;rw[aHA,aJH]
theorem aGH:∀ (t:Tr) (s:Rs),eE F (its.map er) t s=eE F its t s:=by
 intro t
 induction t with
 |nil=>intro s;rfl
 |node b o a l r ihl ihr=>grind[eE,aXY]
theorem aVB:∀ (L:Tr) (s:Rs),kU (er L) s=kU L s:=by
 intro L
 induction L with
 |nil=>intro _;rfl
 |node b o a e r _ ih=>grind[kU,er,cC,lI,aN7,aVI]
theorem aXH:∀ (L:Tr) (i:Nat) (s:Rs),vD F (its.map er) (er L) i s=vD F its L i s:=by
 intro L
 induction L with
 |nil=>intro _ _;rfl
 |node b o a e r _ ih=>
  intro i s;show vD F (its.map er) (er r) (i+1) (eE F (its.map er) (tP (er e)) ((eE F (its.map er) (oK (er e)) s).s0 i (oU (er e))))=_;rw[ih,aRK,aRJ,aGH,aGH,aKL,aKL,aY1];rfl
theorem aYM(a:Nd)(l p:Tr)(s:Rs):fnS F (its.map er) a (er l) (er p) s=fnS F its a l p s:=by
 grind[fnS,wX,aVB,aXH]
theorem aYG(e:Tr)(i:Nat)(s:Rs):itR F (its.map er) (er e) i s=itR F its e i s:=by
 cases e with
 |nil=>rfl
 |node b o a l r=>
  show(if a.a=16 then(s.r0 F a i).arr a else fnR F (its.map er) (.node 0 0 a (er l) (er r)) (s.r0 F a i))=(if a.a=16 then(s.r0 F a i).arr a else fnR F its (.node b o a l r) (s.r0 F a i))
  congr 1
  cases r with
  |nil=>rfl
  |node x y z p q=>
   show eE F (its.map er) (er q) (fnS F (its.map er) a (er l) (er p) _).2=eE F its q (fnS F its a l p _).2;rw[aYM,aGH,aKL]
theorem aVU:∀ (L:Tr) (i:Nat) (s:Rs),uT F (its.map er) (er L) i s=uT F its L i s:=by
 intro L
 induction L with
 |nil=>intro _ _;rfl
 |node b o a e r _ ih=>grind[uT,er,itR,aYG]
theorem aDF(t:Tr):eH (er t)=(eH t).map er:=by unfold eH;rw[wX,aT5,aXK]
theorem zL(t:Tr):cL (er t)=cL t:=by unfold cL;rw[wX,aYK]
theorem aV5(t:Tr):aKP (er t)=aKP t:=by unfold aKP;rw[zL,aDF,wX,aT5,aVU]
theorem aMX(t:Tr)(n:Int):fZ (er t) n=fZ t n:=by
 unfold fZ
 grind[eG,cL,eH,gJ,aV5,zL,aDF,aB1]
theorem aV4(t:Tr):vQ (er t)=vQ t:=by
 unfold vQ
 grind[eG,cL,eH,gJ,zL,aDF,aB1,aQL]
theorem aVM(e:Tr):vU (er e)=vU e:=by
 cases e with
 |nil=>rfl
 |node b o a l r=>exact aC7 l
end
section
variable {F:dB} {its:List Tr} {H O:Nat}
theorem aJ4:∀ (t C:Tr),Sh t C->dE H t->dE H C:=by
 intro t
 induction t with
 |nil=>intro C h _;cases C with
  |nil=>trivial
  |node=>trivial
 |node b o a l r ihl ihr=>
  intro C h c;cases C with
  |nil=>trivial
  |node b' o' a' l' r'=>
   obtain⟨rfl,_,g,_,_,_,_,_,_,_,d,e⟩:=h;exact⟨ihl _ d c.1,ihr _ e c.2.1,fun f=>c.2.2 Qg⟩
theorem aLE{e:Tr}(h:dE H e)(n:Int):dE H (jC e n):=by
 cases e with
 |nil=>trivial
 |node b o a l r=>assumption
theorem aLF:∀ (L:Tr) (s:Rs),dE H L->dE H (qN L s):=by
 intro L
 induction L with
 |nil=>intro _ _;trivial
 |node b o a e r _ ih=>intro s h;exact⟨aLE h.1 _,ih _ h.2.1,h.2.2⟩
theorem wW{t L:Tr}(h:dE H t)(c:dE H L):dE H (nI t L):=by
 cases t with
 |nil=>trivial
 |node b o a l r=>exact⟨c,h.2.1,h.2.2⟩
theorem aPL{e:Tr}(i:Nat)(s:Rs)(h:dE H e):dE H (itT F its e i s):=by
 cases e with
 |nil=>trivial
 |node b o a l r=>
  show dE H (if a.a=16 then BT.node b o a l r else fnT F its (.node b o a l r) (s.r0 F a i))
  split
  ·exact h
  ·cases r with
   |nil=>exact h
   |node x y z p q=>
    exact⟨wW h.1 (aLF _ _ (lV h.1)),⟨wW h.2.1.1 (aJ4 _ _ (tF _ _ _) (lV h.2.1.1)),aJ4 _ _ (eZ _ _ _ _) h.2.1.2.1,h.2.1.2.2⟩,h.2.2⟩
theorem aLG:∀ (L:Tr) (i:Nat) (s:Rs),dE H L->dE H (nG F its L i s):=by
 intro L
 induction L with
 |nil=>intro _ _ _;trivial
 |node b o a e r _ ih=>intro i s h;exact⟨aPL i s h.1,ih _ _ h.2.1,h.2.2⟩
theorem aCW{t:Tr}(c:Ws 8 t):Ws 8 (aA1 t)/\ps (aA1 t)=ps t/\(∀ H,dE H t->dE H (aA1 t))/\aH (aA1 t)=aH t:=by
 have d:=c.elems Oa;have j:Ws 18 (hY (aD t) 0 0):=pS d;have f:=uW (aD t) 0 0 d;obtain⟨g,h,i,_,_⟩:=uS (F:=cL t) (its:=eH t) (hY (aD t) 0 0) 0 rs0 j;have h0:bG (nG (cL t) (eH t) (hY (aD t) 0 0) 0 rs0)=bG (aD t):=i.t f.lenL;refine⟨zW Ot c g h0,aCZ Oa c (h.t f.ps),fun H e=>wW e (aLG _ _ _ (aFU _ _ _ (lV e))),?_⟩;rcases c.lst (by omega)with rfl|⟨b,o,a,l,rfl,ht,_⟩
 ·rfl
 ·show(if a.a=20 then _ else _)=(if a.a=20 then _ else _);rw[if_pos ht,if_pos ht]
  congr 1
theorem aOP{t:Tr}(a:Ws 8 t):sE 17 (aD t)=(aY 17 (aD (aA1 t))).map fO:=by
 have b:=a.elems Oa
 grind[pD,aFO,pS,aV8,aFD]
theorem aIG{w:World}{b n:Nat}{e:TypeId}{v:Value}{a:List Value}(h:w.ownsRow b e 1 v n a):n=a.length:=by have:=h.1;omega
theorem bU.b{w w':World}(c:∀ k,k < w.1.size->w'.1[k]?=w.1[k]?):∀ {t:Tr},bU w t->bU w' t:=by
 intro t
 induction t with
 |nil=>intro _;trivial
 |node b o a l r ihl ihr=>
  intro h;refine⟨ihl h.1,ihr h.2.1,?_⟩;have d:=h.2.2;unfold iR at d ⊢
  have key:∀ {n:Nat},gM n w b a l r->gM n w' b a l r:=by
   intro n h
   match n,h with
   |0,h|1,h|2,h|3,h|4,h|5,h|6,h|7,h|8,h|9,h|10,h|11,h|12,h|13,h|14,h|16,h|17,h=>exact At.same h (c _ (At.lt h))
   |20,h=>exact⟨h.1,At.same h.2 (c _ (At.lt h.2))⟩
   |15,_|18,_|19,_=>trivial
   |n+21,_=>trivial
  simp[*]
end
section
structure LS where
 ws:List aU
 bad:Bool
 start:Nat
 mode:Int
 acc:List UInt8
 p:Nat
def LS.goes(c:LS)(r:Int):Bool:=
 if c.mode=1 then r !=10 else if c.mode=2 then eQ r||eN r else if c.mode=3 then eN r
 else if c.mode=4 then wZ (c.acc++(Utf8.encode r).data.toList)else false
def LS.push(c:LS)(k v:Int)(t:ByteArray):LS:={c with ws:=⟨k,c.start,t,v⟩::c.ws}
def LS.fail(c:LS):LS:={c with bad:=true}
def LS.d0(c:LS):LS:=
 if c.mode=2 then(if 12 < Lib.runeCount ⟨c.acc.toArray⟩then c.fail else if xW c.acc then c.push (zU c.acc) 0 (ByteArray.mk #[])else c.push 1 0 ⟨c.acc.toArray⟩)
 else if c.mode=3 then(if 999999999 < kX c.acc then c.fail else c.push 2 (kX c.acc) (ByteArray.mk #[]))
 else if c.mode=4 then(if xW c.acc then c.push (zU c.acc) 0 (ByteArray.mk #[])else c.fail)
 else c
def LS.m0(c:LS)(r:Int):LS:=
 if rV r then {c with start:=c.p,mode:=0}else if r=35 then {c with start:=c.p,mode:=1}
 else if eQ r then {c with start:=c.p,mode:=2}else if eN r then {c with start:=c.p,mode:=3}
 else if wZ (Utf8.encode r).data.toList then {c with start:=c.p,mode:=4}else {c with start:=c.p,bad:=true}
structure Ch where
 r:Nat
 bs:List UInt8
def LS.step(c:LS)(x:Ch):LS:=
 if c.goes x.r then {c with acc:=c.acc++x.bs,p:=c.p+x.bs.length}else {(c.d0.m0 x.r)with acc:=x.bs,p:=c.p+x.bs.length}
def LS.run(c:LS)(l:List Ch):LS:=l.foldl LS.step c
theorem LS.run_cons(c:LS)(x:Ch)(b:List Ch):c.run (x::b)=(c.step x).run b:=rfl
def bA8(s:ByteArray):Nat->List Ch->Prop
 |p,[]=>p=s.size
 |p,x::l=>p < s.size/\Utf8.decode s p=(x.r,x.bs.length)/\lJ s p x.r=false/\(s.data.toList.take (p+x.bs.length)).drop p=x.bs/\bA8 s (p+x.bs.length) l
theorem LS.finish_bad(c:LS)(h:c.bad=true):c.d0.bad=true:=by
 unfold LS.d0 LS.push LS.fail
 repeat' split
 all_goals simp[h]
theorem LS.begins_bad(c:LS)(r:Int)(h:c.bad=true):(c.m0 r).bad=true:=by
 unfold LS.m0
 repeat' split
 all_goals simp[h]
theorem LS.step_bad(c:LS)(x:Ch)(h:c.bad=true):(c.step x).bad=true:=by
 unfold LS.step
 split
 ·exact h
 ·exact(c.d0).begins_bad x.r (c.finish_bad h)
theorem LS.run_bad:∀ (l:List Ch) (c:LS),c.bad=true->(c.run l).bad=true
 |[],_,h=>h
 |x::l,c,h=>LS.run_bad l (c.step x) (c.step_bad x h)
theorem LS.z0(c:LS):c.d0.start=c.start/\c.d0.mode=c.mode/\c.d0.acc=c.acc/\c.d0.p=c.p:=by
 unfold LS.d0 LS.push LS.fail
 repeat' split
 all_goals simp
structure LsR(s:ByteArray)(c:dI)(L:LS)(p:Nat):Prop where
 f:c.f=s
 words:c.words=L.ws.reverse
 a:c.a=0
 bad:L.bad=false
 start:c.start=L.start
 mode:c.mode=L.mode
 acc:(s.data.toList.take p).drop L.start=L.acc
 at_:L.p=p
 le:L.start<=p
variable {s:ByteArray} {c:dI} {L:LS} {p:Nat}
theorem LsR.piece(h:LsR s c L p):c.f.extract c.start.toNat p=⟨L.acc.toArray⟩:=by
 have a:(c.f.extract c.start.toNat p).data.toList=L.acc:=by
  rw[h.f,h.start,Int.toNat_natCast,Lib.extract_data,<-h.acc,List.drop_take]
 rw[<-a]
theorem LsR.d0(h:LsR s c L p)(a:L.d0.bad=false):(c.d0 p).f=s/\(c.d0 p).words=L.d0.ws.reverse/\(c.d0 p).a=0:=by
 have i:=h.piece;unfold dI.d0 LS.d0 at*;rw[h.mode]
 by_cases e:L.mode=2
 ·rw[if_pos e,if_pos e]at*;unfold dI.named;rw[i]
  by_cases d:12 < Lib.runeCount ⟨L.acc.toArray⟩
  ·rw[if_pos d]at a;cases a
  ·rw[if_neg d]at a ⊢;rw[if_neg d]
   by_cases b:xW L.acc=true
   ·rw[if_pos b,if_pos (show xW L.acc.toArray.toList=true by simpa using b)];exact⟨h.f,by simp[dI.push,LS.push,h.words,h.start],h.a⟩
   ·rw[if_neg b,if_neg (show ¬xW L.acc.toArray.toList=true by simpa using b)];exact⟨h.f,by simp[dI.push,LS.push,h.words,h.start],h.a⟩
 rw[if_neg e,if_neg e]at*
 by_cases f:L.mode=3
 ·rw[if_pos f,if_pos f]at*;unfold dI.number;rw[i]
  by_cases d:999999999 < kX L.acc
  ·rw[if_pos d]at a;cases a
  ·rw[if_neg d]at a ⊢;rw[if_neg (show ¬999999999 < kX L.acc.toArray.toList by simpa using d)];exact⟨h.f,by simp[dI.push,LS.push,h.words,h.start],h.a⟩
 rw[if_neg f,if_neg f]at*
 by_cases g:L.mode=4
 ·rw[if_pos g,if_pos g]at*;unfold dI.sign;rw[i]
  by_cases b:xW L.acc=true
  ·rw[if_pos b,if_pos (show xW L.acc.toArray.toList=true by simpa using b)];exact⟨h.f,by simp[dI.push,LS.push,h.words,h.start],h.a⟩
  ·rw[if_neg b]at a;cases a
 rw[if_neg g,if_neg g]at*;exact⟨h.f,h.words,h.a⟩
theorem LsR.goes(h:LsR s c L p){r:Int}(a:lJ s p r=false):c.goes p r=L.goes r:=by
 unfold dI.goes LS.goes;rw[h.mode,h.f,a,h.start,Int.toNat_natCast,h.acc];simp
theorem LsR.step(h:LsR s c L p){x:Ch}(v:lJ s p x.r=false)(o:(s.data.toList.take (p+x.bs.length)).drop p=x.bs)(a:(L.step x).bad=false):LsR s (c.step p x.r) (L.step x) (p+x.bs.length):=by
 have u:=h.goes v;unfold dI.step LS.step at*;rw[u]
 by_cases l:L.goes x.r=true
 ·rw[if_pos l,if_pos l];refine⟨h.f,h.words,h.a,h.bad,h.start,h.mode,?_,by rw[h.at_],by have:=h.le;show L.start<=_;omega⟩;show(s.data.toList.take (p+x.bs.length)).drop L.start=L.acc++x.bs
  have d:s.data.toList.take (p+x.bs.length)=s.data.toList.take p++((s.data.toList.take (p+x.bs.length)).drop p):=by
   conv=>lhs;rw[<-List.take_append_drop p (s.data.toList.take (p+x.bs.length))]
   rw[List.take_take,Nat.min_eq_left Oa]
  rw[d,o,List.drop_append,h.acc]
  congr 1
  by_cases q:x.bs=[]
  ·rw[q];simp
  ·have y:p+x.bs.length<=s.data.toList.length:=by
    have:=congrArg List.length o;rw[List.length_drop,List.length_take]at this;have h0:0 < x.bs.length:=List.length_pos_iff.2 q;omega
   have r:=h.le;rw[List.length_take,Nat.min_eq_left Oa,Nat.sub_eq_zero_of_le r];rfl
 ·rw[if_neg l]at a ⊢;rw[if_neg l]
  have t:L.d0.bad=false:=by
   cases e:L.d0.bad with
   |false=>rfl
   |true=>exact absurd (L.d0.begins_bad x.r e) (by simpa using a)
  obtain⟨f1,f,f3⟩:=h.d0 t;obtain⟨z,A,E,w⟩:=L.z0;have b:L.d0.p=p:=w.t h.at_;have g:(s.data.toList.take (p+x.bs.length)).drop p=x.bs:=o;generalize c.d0 p=C at*;generalize L.d0=M at*;unfold dI.m0 LS.m0 at*
  by_cases d:rV x.r=true
  ·rw[if_pos d]at a ⊢;rw[if_pos d];exact⟨f1,f,f3,a,by show(p:Int)=(M.p:Int);rw[b],rfl,by show List.drop M.p _=_;rw[b];exact g,by show L.p+_=_;rw[h.at_],by show M.p<=_;omega⟩
  rw[if_neg d]at a ⊢;rw[if_neg d]
  by_cases i:(x.r:Int)=35
  ·rw[if_pos i]at a ⊢;rw[if_pos i];exact⟨f1,f,f3,a,by show(p:Int)=(M.p:Int);rw[b],rfl,by show List.drop M.p _=_;rw[b];exact g,by show L.p+_=_;rw[h.at_],by show M.p<=_;omega⟩
  rw[if_neg i]at a ⊢;rw[if_neg i]
  by_cases j:eQ x.r=true
  ·rw[if_pos j]at a ⊢;rw[if_pos j];exact⟨f1,f,f3,a,by show(p:Int)=(M.p:Int);rw[b],rfl,by show List.drop M.p _=_;rw[b];exact g,by show L.p+_=_;rw[h.at_],by show M.p<=_;omega⟩
  rw[if_neg j]at a ⊢;rw[if_neg j]
  by_cases k:eN x.r=true
  ·rw[if_pos k]at a ⊢;rw[if_pos k];exact⟨f1,f,f3,a,by show(p:Int)=(M.p:Int);rw[b],rfl,by show List.drop M.p _=_;rw[b];exact g,by show L.p+_=_;rw[h.at_],by show M.p<=_;omega⟩
  rw[if_neg k]at a ⊢;rw[if_neg k]
  by_cases n:wZ (Utf8.encode x.r).data.toList=true
  ·rw[if_pos n]at a ⊢;rw[if_pos n];exact⟨f1,f,f3,a,by show(p:Int)=(M.p:Int);rw[b],rfl,by show List.drop M.p _=_;rw[b];exact g,by show L.p+_=_;rw[h.at_],by show M.p<=_;omega⟩
  rw[if_neg n]at a;cases a
theorem LsR.run:∀ (l:List Ch) (n p:Nat) (c:dI) (L:LS),LsR s c L p->bA8 s p l->l.length < n->(L.run l).d0.bad=false->(c.run n p).words=(L.run l).d0.ws.reverse/\(c.run n p).a=0
 |[],n+1,p,c,L,h,a,_,hb=>by
  have a:p=s.size:=a;have h0:c.run (n+1) p=c.d0 p:=if_neg (by rw[h.f];omega);rw[h0];obtain⟨_,k,f3⟩:=h.d0 hb;exact⟨k,f3⟩
 |x::l,n+1,p,c,L,h,a,hn,hb=>by
  obtain⟨d1,b,f,g,i⟩:=a
  have o:(L.step x).bad=false:=by
   cases e:(L.step x).bad with
   |false=>rfl
   |true=>exact absurd (LS.finish_bad _ (LS.run_bad l (L.step x) e)) (by rw[LS.run_cons]at hb;simp[hb])
  have d:=h.step f g o;have e1:(Utf8.decode c.f p).1=x.r:=by rw[h.f,b]
  have j:(Utf8.decode c.f p).2=x.bs.length:=by rw[h.f,b]
  have h0:c.run (n+1) p=(c.step p x.r).run n (p+x.bs.length):=by
   show(if p < c.f.size then _ else _)=_;rw[if_pos (by rw[h.f];exact d1),e1,j,if_neg (by rw[d.a];simp)]
  rw[h0];exact LsR.run l n _ _ _ d i (by simp at hn;omega) hb
end
end Go.Proofs.YtikffmloeifkpaaGreatDoor
