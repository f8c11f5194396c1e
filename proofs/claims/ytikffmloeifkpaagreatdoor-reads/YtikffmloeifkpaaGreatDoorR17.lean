/- Contracts. -/
import Derived.Test.YtikffmloeifkpaaGreatDoorR16
set_option maxHeartbeats 8000000
set_option maxRecDepth 100000
namespace Go.Proofs.YtikffmloeifkpaaGreatDoor
open Go.RowKit Go.Lib Go.Deep Go.ChangeMaps Go.MapKept Tryz
section
variable {H O X:Nat} {it D M:Value} {m:Int} {U:List Tr}
theorem oG{b:Nat}{w:World}{a:Nd}{l r:Tr}(c:Own w b a l r)(h:a.a=6):w.cell? ⟨b,0,none⟩=some (Qc a.op)/\w.cell? ⟨b,1,none⟩=some (Qc a.e)/\w.cell? ⟨b,2,none⟩=some (bCH l)/\w.cell? ⟨b,3,none⟩=some (bCH r):=by
 obtain⟨d,j,e,f,g,i,_⟩:=aI c (n:=6) h
 grind[cell_of_row]
theorem aKL(a:Nd):(vD a=true/\(a.op==30)=true)\/(vD a=true/\(a.op==30)=false/\(a.op==31)=true)\/(vD a=false/\(a.op==30)=false/\(a.op==31)=false):=by
 grind[vD]
theorem aKW{b o:Nat}{a:Nd}{l r:Tr}(k:a.a=6)(hH:aUI H (.node b o a l r))(y5:(ps (.node b o a l r)).Nodup)(hl:Ws 0 l/\GSi 197 H O X it D M m U bCH l)(hr:Ws 0 r/\GSi 197 H O X it D M m U bCH r):GSi 252 H O X it D M m U cB (.node b o a l r):=by
 intro S z h hi hS;have E:=dZ y5;have y8:H<=b:=hH.2.2 (by unfold gY;omega);obtain⟨y1,y7⟩:=hl;obtain⟨y0,y6⟩:=hr;obtain⟨a3,s,z0⟩:=y1.g Oy;obtain⟨u2,p2,y2⟩:=y0.g Oy;have k5:=kI b o a l r;rw[if_pos k,if_neg (fun h=>h.1 k)]at k5;have z2:=lS U l S;have k0:bO U a S=S:=by unfold bO;rw[Oh,Oh,Oh]
 have z1:po a=[a.e]:=by unfold po;rw[if_pos k]
 have h8:=y7 S z h hi.1 Oa;obtain⟨_,_,m2,_⟩:=oG hi.2.2 k;rw[z0]at m2 h8;have HR:Hid (GSi 197 H O X it D M m U bCH r):=y6;have RK:Hid _:=fun W2 W=>gV (H:=H) (W2:=W2) y0 E hi W (by omega:a.a≠20)
 have F:Hid (∀ (i:Int) (S2:Sl) (W2 d:World),Fr H (Po a) W2 d->IsT W2 (siT U l S)->IsT W2 r->IsT d (siT U l S)/\IsT d r):=fun i S2 W2 d a2 k1 k2=>
  ⟨IsT.fr a2 (fun t s v=>(Po.body t s v).e) ((gO U l S).ws y1) k1 (by rw[(gO U l S).ps];exact Po.o E.own_l),IsT.fr a2 (fun t s v=>(Po.body t s v).e) y0 k2 (Po.o E.own_r)⟩
 have a1:Hid (∀ (G:Sl) (i:Int) (d c:World),dE a (siR U l S)=G->bNP U a S (siR U l S)=i->Own d b {a with f:=i} l r->IsT d (siT U l S)->Fr H (Pt (.node b o a l r)) z d->SiW H O X it D M m U (siR U r G) c->IsT c (siT U r G)->Fr H (Pt r) d c->
  aA7 H O X it D M m U (Pt (.node b o a l r)) (siT U (.node b o a l r) S) (siR U (.node b o a l r) S) z (.returned (.tuple #[])) c):=by
  intro G i d c e1 e2 V w Y u n j;have x:=cX V j Pt.body (fun s v ty L=>E.own_r s v L.2) (by show a.a≠20;omega);have l4:=xR w j y1 (gO _ _ _) E.apart_;have eR:siR U (.node b o a l r) S=siR U r G:=by show siR U r (dE a (siR U l (bO U a S)))=_;rw[k0,e1]
  have eT:siT U (.node b o a l r) S= .node b o {a with f:=i} (siT U l S) (siT U r G):=by
   show BT.node b o {a with f:=bNP U a S (siR U l (bO U a S))} (siT U l (bO U a S)) (siT U r (dE a (siR U l (bO U a S))))=_;rw[k0,e1,e2]
  rw[eR,eT];exact⟨rfl,u,⟨l4,n,gZ x (gO _ _ _) (gO _ _ _)⟩,Y.t (j.mono Pt.right)⟩
 have p:Hid (a.a=6):=k;have HB:Hid (H<=b):=y8;show Calls prog 252 #[Qd X,Qd b] z _;have h1:vD a=true->dE a (siR U l S)=siR U l S++[(3,a.e)]:=fun g=>by unfold dE;rw[if_pos k,if_pos g]
 have k3:vD a=true->bNP U a S (siR U l S)=((siR U l S).length:Int):=fun g=>by unfold bNP;rw[Oh,Oh,if_pos k,if_pos g]
 have h7:vD a=false->dE a (siR U l S)=siR U l S:=fun g=>by unfold dE;rw[if_pos k,if_neg (by rw[g];decide)]
 have k4:vD a=false->bNP U a S (siR U l S)= -1:=fun g=>by unfold bNP;rw[Oh,Oh,if_pos k,if_neg (by rw[g];decide)]
 have y9:(siR U l S).length+1+(ps r).length<=1000000:=Oa
 have h9:Hid _:=h1;have k7:Hid _:=k3;have k8:Hid _:=h7;have y4:Hid _:=k4;have R:Hid ((siR U l S).length+1+(ps r).length<=1000000):=y9;clear y7 y6 y1 y0 hi hS E y5 hH k5 z2 k0 z1 h1 h7 k3 k4 y9 y8 h;rcases aKL a with⟨g,d1⟩|⟨g,d1,d2⟩|⟨g,d1,d2⟩
 all_goals
  go_enter func252,ntmps252
  go_wp2_with fail
  refine h8.mono ?_;rintro e W2 ⟨rfl,h2,i2,W⟩;obtain⟨j2,o2⟩:=RK.o W2 W;obtain⟨B,Y,V,⟨q3,c3⟩,z3⟩:=mZ (o:=4) (i:=-1) h2 o2 HB.o (.l ⟨.r (.r p.o),rfl⟩);obtain⟨w,C⟩:=F.o (-1) S W2 _ Y i2 j2;obtain⟨n0,T,_,n3⟩:=oG V p.o;have n0:(W2.setCell ⟨b,4,none⟩ (Qc (-1))).cell? ⟨b,0,none⟩=some (Qc a.op):=n0;have T:(W2.setCell ⟨b,4,none⟩ (Qc (-1))).cell? ⟨b,1,none⟩=some (Qc a.e):=T;have J:Hid (Fr H (Pt (.node b o a l r)) z (W2.setCell ⟨b,4,none⟩ (Qc (-1)))):=(W.mono Pt.left).t (Y.mono Po.to);have Q:Hid (Own (W2.setCell ⟨b,4,none⟩ (Qc (-1))) b {a with f:=(-1:Int)} l r):=V;clear V Y W o2 h2 i2 j2;go_upto_region 2 with fail
  generalize W2.setCell ⟨b,4,none⟩ (Qc (-1))=d at*
 ·go_wp2_with fail
  refine(vK 3 a.e d B (Oi R.o)).mono ?_;rintro e c ⟨rfl,u,j⟩;have x:Own c b {a with f:=(-1:Int)} l r:=cX Q.o j F0.body (fun s v ty L=>L) (by have:=p.o;show a.a≠20;omega);have n:IsT c (siT U l S)/\IsT c r:=F.o 0 S d c (j.mono F0.to) w C;obtain⟨h5,A,y,⟨q5,c5⟩,z5⟩:=mZ (o:=4) (i:=((siR U l S).length:Int)) u x HB.o (.l ⟨.r (.r p.o),rfl⟩);obtain⟨i5,P⟩:=F.o 0 S c _ A n.1 n.2;obtain⟨_,_,_,n5⟩:=oG y p.o;have X5:Hid (Fr H (Pt (.node b o a l r)) z (c.setCell ⟨b,4,none⟩ (Qc ((siR U l S).length:Int)))):=(J.o.t (j.mono F0.to)).t ((show Fr H (Po a) c _ from A).mono Po.to);have y3:Hid (Own (c.setCell ⟨b,4,none⟩ (Qc ((siR U l S).length:Int))) b {a with f:=((siR U l S).length:Int)} l r):=y;have q:=HR.o _ _ h5 P (by have:=R.o;rw[List.length_append];simp only[List.length_cons,List.length_nil];omega);rw[y2]at n5 q;clear x y j A n u Q J n0 T n3 w C B P;go_upto_region 4 with fail
  generalize c.setCell ⟨b,4,none⟩ (Qc ((siR U l S).length:Int))=W5 at*;go_wp2_with fail
  refine q.mono ?_;rintro e I ⟨rfl,K,N,Z⟩;go_wp2;go_end0
  exact a1.o _ _ W5 I (h9.o g) (k7.o g) y3.o i5 X5.o K N Z
 ·go_wp2_with fail
  refine(vK 3 a.e d B (Oi R.o)).mono ?_;rintro e c ⟨rfl,u,j⟩;have x:Own c b {a with f:=(-1:Int)} l r:=cX Q.o j F0.body (fun s v ty L=>L) (by have:=p.o;show a.a≠20;omega);have n:IsT c (siT U l S)/\IsT c r:=F.o 0 S d c (j.mono F0.to) w C;obtain⟨h5,A,y,⟨q5,c5⟩,z5⟩:=mZ (o:=4) (i:=((siR U l S).length:Int)) u x HB.o (.l ⟨.r (.r p.o),rfl⟩);obtain⟨i5,P⟩:=F.o 0 S c _ A n.1 n.2;obtain⟨_,_,_,n5⟩:=oG y p.o;have X5:Hid (Fr H (Pt (.node b o a l r)) z (c.setCell ⟨b,4,none⟩ (Qc ((siR U l S).length:Int)))):=(J.o.t (j.mono F0.to)).t ((show Fr H (Po a) c _ from A).mono Po.to);have y3:Hid (Own (c.setCell ⟨b,4,none⟩ (Qc ((siR U l S).length:Int))) b {a with f:=((siR U l S).length:Int)} l r):=y;have q:=HR.o _ _ h5 P (by have:=R.o;rw[List.length_append];simp only[List.length_cons,List.length_nil];omega);rw[y2]at n5 q;clear x y j A n u Q J n0 T n3 w C B P;go_upto_region 4 with fail
  generalize c.setCell ⟨b,4,none⟩ (Qc ((siR U l S).length:Int))=W5 at*;go_wp2_with fail
  refine q.mono ?_;rintro e I ⟨rfl,K,N,Z⟩;go_wp2;go_end0
  exact a1.o _ _ W5 I (h9.o g) (k7.o g) y3.o i5 X5.o K N Z
 ·have q:=HR.o _ _ B C (Oi R.o);rw[y2]at n3 q;clear T B C;go_wp2_with fail
  refine q.mono ?_;rintro e I ⟨rfl,K,N,Z⟩;go_wp2;go_end0
  exact a1.o _ _ d I (k8.o g) (y4.o g) Q.o w J.o K N Z
end
section
variable {H O X:Nat} {it D M:Value} {m:Int} {U:List Tr}
theorem xO{b o:Nat}{a:Nd}{e r:Tr}(h:a.a=15\/a.a=20\/a.a=18)(S:Sl):siR U (.node b o a e r) S=siR U r (siR U e S)/\siT U (.node b o a e r) S= .node b o a (siT U e S) (siT U r (siR U e S)):=by
 obtain⟨c,_,_⟩:=kV (U:=U) (a:=a) (S:=S) (G:=S) Oa;have d:∀ G,dE a G=G:=(by grind[kV]);have g:∀ G,bNP U a S G=a.f:=fun G=>(kV (U:=U) (a:=a) (S:=S) (G:=G) Oa).2.2;refine⟨by grind[siR,dE,bO],?_⟩;show BT.node b o {a with f:=bNP U a S (siR U e (bO U a S))} (siT U e (bO U a S)) (siT U r (dE a (siR U e (bO U a S))))=_;simp[*]
structure LpS(H O X:Nat)(it D M:Value)(m:Int)(U:List Tr)(L:Tr)(G:Sl)(C:World)(i:Nat)(J:Sl)(wr:World):Prop where
 rs:SiW H O X it D M m U J wr
 fr:Fr H (Pt L) C wr
 rest:IsT wr (aL i L)
 wand:∀ w2,Fr H (Pt (aL i L)) wr w2->IsT w2 (siT U (aL i L) J)->IsT w2 (siT U L G)
 run:siR U (aL i L) J=siR U L G
variable {L:Tr} {G J:Sl} {C wr w3:World} {i:Nat}
theorem LpS.start(h:SiW H O X it D M m U G C)(hi:IsT C L):LpS H O X it D M m U L G C 0 G C:=⟨h,Fr.refl _ _ _,hi,fun _ _ h=>h,rfl⟩
theorem LpS.step(h:LpS H O X it D M m U L G C i J wr){s:Nat}(q:s=13\/s=14\/s=15\/s=16\/s=18)(A:Ws s L)(y:(ps L).Nodup){b o:Nat}{a:Nd}{e r:Tr}(z:aL i L= .node b o a e r)(n:aL (i+1) L=r)(u:SiW H O X it D M m U (siR U e J) w3)(v:IsT w3 (siT U e J))(f:Fr H (Pt e) wr w3):LpS H O X it D M m U L G C (i+1) (siR U e J) w3:=by
 have k:=eX q i _ A;have E:=lT i _ y;have l:=rU i L;obtain⟨_,B,rest,j,run⟩:=h;rw[z]at k E l rest j run;obtain⟨d,x,w⟩:=aY q k;have E:=dZ E;rw[(xO (.l d) J).2]at j;rw[(xO (.l d) J).1]at run;refine⟨u,B.t (f.mono fun t p c=>⟨c.1,l p (fT c.2)⟩),?_,fun F g hi=>?_,?_⟩
 ·rw[n];exact IsT.fr f (fun t p c=>(Pt.body t p c).e) w rest.2.1 (Pt.o E.apart)
 ·rw[n]at g hi;refine j F ((f.mono Pt.left).t (g.mono Pt.right)) ⟨?_,hi,?_⟩
  ·exact xR v g x (gO _ _ _) E.apart_
  ·unfold Own;rw[d];trivial
 simp[*]
theorem LpS.fin(h:LpS H O X it D M m U L G C (aO L) J wr):J=siR U L G/\IsT wr (siT U L G):=by
 obtain⟨_,_,_,a,run⟩:=h;rw[eS]at a run;exact⟨run,a wr (Fr.refl _ _ _) trivial⟩
theorem aC3{s:Nat}{t:Tr}(c:s=3\/s=4\/s=5\/s=6\/s=8)(h:Ws s t)(S:Sl):siR U t S=siR U (bCF t) S:=by
 rcases h.lst c with rfl|⟨b,o,a,l,rfl,d,_⟩
 ·rfl
 ·rw[(xO (.r (.l d)) S).1];rfl
theorem aG2{s:Nat}{t:Tr}{P:TypeId->Int->Prop}{w w':World}{S:Sl}(q:s=3\/s=4\/s=5\/s=6\/s=8)(h:Ws s t)(hi:IsT w t)(r:Fr H P w w')(g:∀ t p,P t p->bCI t)(j:IsT w' (siT U (bCF t) S)):IsT w' (siT U t S):=by
 rcases h.lst q with rfl|⟨b,o,a,l,rfl,c,v⟩
 ·trivial
 ·rw[(xO (.r (.l c)) S).2];have d:=hi.2.2;have f:=(aI d (n:=20) c).1;have x:po a=[]:=by unfold po;rw[c];rfl
  have u:=dH.fr r (fun t p k=>(g t p k).e) d Qh (fun e=>⟨h.list e f,(by grind[bCI])⟩);exact⟨j,trivial,gZ u (gO _ _ _) Qj⟩
theorem aAG.at{w:World}(h:aAG H M U w){j:Nat}(E:j < U.length):∃ g c b a l p q d f,M= Qe g U.length c/\w.cell? ⟨g,j,none⟩=some (Qd b)/\FnW w b a l p q/\bCH p= .slice d (mG U j) f/\Ws 4 q/\mG U j<=10000:=by
 obtain⟨b,o,a,l,x,y,z,p,q,e,v,u,t⟩:=h.own U[j] Od;have s:U[j]?=some (.node b o a l (.node x y z p q)):=Qh
 have F:mG U (j:Int)=aD p:=by unfold mG;simp[*]
 obtain⟨d,f,I⟩:=u.W Oa
 obtain⟨g,c,n⟩:∃ g c,M= Qe g U.length c:=by
  obtain⟨ao,c,A,B⟩:=eQ h.row
  grind
 have k:=h.row;rw[n]at k;have r:=k.cellAt j Oa;refine⟨g,c,b,a,l,p,q,d,f,n,?_,v,Qh,t,by grind[fB]⟩;rw[r,List.getElem?_map,s];rfl
theorem aR8{b o:Nat}{a:Nd}{l r:Tr}(s:a.a=3)(hw:Ws 0 (.node b o a l r))(hH:aUI H (.node b o a l r))(j9:(ps (.node b o a l r)).Nodup)(d5:0<=a.c/\a.c < U.length)(hA:fE (fun e=>Ws 0 e/\GSi 197 H O X it D M m U bCH e) (bCF l)):GSi 251 H O X it D M m U cB (.node b o a l r):=by
 obtain⟨j0,sx,sy,y0,A,g9⟩:=hw.parts;rw[s]at y0;cases y0;obtain rfl:=g9.nil_of;have E:=dZ j9;have j3:=hH.2.2 (by unfold gY;omega);intro S w h hi hS;obtain⟨p,hj⟩:∃ p:Nat,a.c=p:=⟨a.c.toNat,Oa⟩;have d4:p < U.length:=Oa
 obtain⟨ao,cp,z4⟩:=A.W Oy;have z6:=jU Oy A;have y5:(ps (bCF l)).Nodup:=by rw[<-z6];exact E.left
 have k9:=A.elems Oy;have y6:=kI b o a l .nil;rw[Oh,if_pos ⟨Oa,by rw[s];rfl⟩]at y6
 have b1:∀ C,IsT C l->IsT C (bCF l):=fun C h=>by
  cases l with
  |nil=>trivial
  |node=>exact h.1
 have a4:∀ (W:World) (i:Int),Own W b {a with f:=i} l .nil->W.cell? ⟨b,1,none⟩=some (Qc a.b)/\W.cell? ⟨b,2,none⟩=some (Qc a.c)/\W.cell? ⟨b,3,none⟩=some (bCH l):=fun W i ho=>by
  obtain⟨cs,hc,hn,h4,_⟩:=aI ho (n:=3) s;exact⟨Og hc hn.2.1,Og hc hn.2.2,Og hc h4⟩
 have R:Hid (∀ (W2 x:World),Fr H (Po a) W2 x->IsT W2 l->IsT x l):=fun W2 x a6 k1=>IsT.fr a6 (fun t P v=>(Po.body t P v).e) A k1 (Po.o E.own_l)
 have a3:Hid (∀ (G:Sl) (i:Int) (x k:World),bO U a S=G->bNP U a S S=i->Own x b {a with f:=i} l .nil->Fr H (Pt (.node b o a l .nil)) w x->IsT x l->Fr H (Pt (bCF l)) x k->SiW H O X it D M m U (siR U (bCF l) G) k->IsT k (siT U (bCF l) G)->
  aA7 H O X it D M m U (Pt (.node b o a l .nil)) (siT U (.node b o a l .nil) S) (siR U (.node b o a l .nil) S) w (.returned (.tuple #[])) k):=by
  intro G i x k e1 j o3 x3 i3 x4 h4 i4;have a7:Fr H (Pt l) x k:=x4.mono fun t P v=>⟨v.1,by rw[z6];exact v.2⟩;have o4:=cX o3 a7 Pt.body (fun P v ty Z=>E.own_l P v Z.2) (by show a.a≠20;omega);have j1:∀ S2,dE a S2=S2:=fun S2=>by unfold dE;rw[Oh]
  have d0:∀ S2,bNP U a S S2=i:=fun S2=>by
   have g2: ¬(a.a=2\/a.a=10):=Oa
   rw[<-j];unfold bNP;rw[if_neg g2,if_pos s,if_neg g2,if_pos s]
  have eR:siR U (.node b o a l .nil) S=siR U (bCF l) G:=by show siR U .nil (dE a (siR U l (bO U a S)))=_;rw[j1,e1,aC3 Oy A];rfl
  have eT:siT U (.node b o a l .nil) S= .node b o {a with f:=i} (siT U l G) .nil:=by
   show BT.node b o {a with f:=bNP U a S (siR U l (bO U a S))} (siT U l (bO U a S)) _=_;rw[e1,d0];rfl
  rw[eR,eT];exact⟨rfl,h4,⟨aG2 Oy A i3 a7 Pt.body i4,trivial,gZ o4 (gO _ _ _) (Sh.refl _)⟩,x3.t (a7.mono Pt.left)⟩
 obtain⟨T,x1,o1,⟨q1,c1⟩,z1⟩:=mZ (o:=4) (i:=-1) h hi.2.2 j3 (.l ⟨.r (.l s),rfl⟩);have i1:=R.o w _ x1 hi.1;obtain⟨u1,u2,n3⟩:=a4 _ _ o1;have n1:=u1;have n2:(w.setCell ⟨b,4,none⟩ (Qc (-1))).cell? ⟨b,2,none⟩=some (Qc (p:Int)):=by rw[<-hj];exact u2
 clear u1 u2;have X1:Hid (Fr H (Pt (.node b o a l .nil)) w (w.setCell ⟨b,4,none⟩ (Qc (-1)))):=x1.mono Po.to;have z7:Hid _:=o1;have y2:mG U a.c=mG U (p:Int):=by rw[hj]
 have k0:0 < mG U (p:Int)->bO U a S=S++[(4,a.b)]:=fun Y=>by unfold bO;rw[Oh,Oh,if_pos s,y2,if_pos Y]
 have y3:0 < mG U (p:Int)->bNP U a S S=(S.length:Int):=fun Y=>by unfold bNP;rw[Oh,if_pos s,y2,if_pos Y]
 have k2: ¬0 < mG U (p:Int)->bO U a S=S:=fun Y=>by unfold bO;rw[Oh,Oh,if_pos s,y2,if_neg Y]
 have y4: ¬0 < mG U (p:Int)->bNP U a S S= -1:=fun Y=>by unfold bNP;rw[Oh,if_pos s,y2,if_neg Y]
 have d6:Hid _:=k0;have d8:Hid _:=y3;have d7:Hid _:=k2;have d9:Hid _:=y4;have HT:Hid _:=s;have m0:Hid (H<=b):=j3;have g8:Hid _:=a4;have z2:Hid _:=b1;have g6:Hid _:=y5;have g5:Hid _:=k9;have g4:Hid (Ws 3 l):=A;have j5:Hid (S.length+1+(ps (bCF l)).length<=1000000):=by rw[Hid,<-z6];omega
 have g7:Hid _:=fB Oy A;show Calls prog 251 #[Qd X,Qd b] w _;clear k0 y3 k2 y4 a4 b1 y5 k9 A z6 y6 E j9 hH hw j0 d5 x1 o1 hS hi y2 hj s j3;go_enter func251,ntmps251
 go_upto_region 1 with fail
 generalize w.setCell ⟨b,4,none⟩ (Qc (-1))=C at*;obtain⟨g,b7,bf,af,lf,pf,qf,ap,b8,j8,g0,g1,j7,_,c6⟩:=T.fns.at d4;obtain⟨_,_,_,k4,_,_,_⟩:=g1.cells;rw[j7]at k4;have c0:C.cell? ⟨X,0,none⟩=some (Qd O):=Og T.blk rfl
 have p2:C.cell? ⟨O,2,none⟩=some M:=by
  obtain⟨B,v,_⟩:=T.prog;rw[cell_of_row _ _ _ _ _ _ v];rfl
 rw[j8]at p2;have b9:(p:Int) < (U.length:Int):=Oa
 clear g1 j7 j8 c1 z1
 by_cases hk:0 < mG U (p:Int)
 ·have d3:(0:Int) < (mG U (p:Int):Int):=Oa
  go_quiet (fail)
  have g3:=T.drewN nq;have Q:Fr H F0 C (C.drewN nq):=(Fr.refl _ _ _).drewN nq;have b3:=cX z7.o Q F0.body (fun P v ty Z=>Z) (by have:=HT.o;show a.a≠20;omega);have a9:=R.o C _ (Q.mono F0.to) i1;have a8:Hid (Fr H (Pt (.node b o a l .nil)) w (C.drewN nq)):=X1.o.t (Q.mono F0.to);have b4:(C.drewN nq).cell? ⟨b,1,none⟩=some (Qc a.b):=n1;clear n1 n2 n3 i1 T X1 z7 Q c0 p2 g0 k4;generalize C.drewN nq=W2 at*;go_wp2_with fail
  refine(vK 4 a.b W2 g3 (Oi j5.o)).mono ?_;rintro e k ⟨rfl,h4,x4⟩;have o4:Own k b {a with f:=(-1:Int)} l .nil:=cX b3 x4 F0.body (fun P v ty Z=>Z) (by have:=HT.o;show a.a≠20;omega);have i4:=R.o W2 k (x4.mono F0.to) a9;obtain⟨V,x5,o5,⟨q5,c5⟩,z5⟩:=mZ (o:=4) (i:=(S.length:Int)) h4 o4 m0.o (.l ⟨.r (.l HT.o),rfl⟩);have N:=R.o k _ x5 i4;obtain⟨_,_,m3⟩:=g8.o _ _ o5;rw[z4]at m3;have X5:Hid (Fr H (Pt (.node b o a l .nil)) w (k.setCell ⟨b,4,none⟩ (Qc (S.length:Int)))):=(a8.o.t (x4.mono F0.to)).t ((show Fr H (Po a) k _ from x5).mono Po.to);have k8:Hid (Own (k.setCell ⟨b,4,none⟩ (Qc (S.length:Int))) b {a with f:=(S.length:Int)} l .nil):=o5;clear o4 o5 x4 x5 i4 h4 a8 b3 a9 g3 b4;go_upto_region 3 with fail
  generalize k.setCell ⟨b,4,none⟩ (Qc (S.length:Int))=y at*;obtain⟨d,F⟩:∃ d,d=S++[(4,a.b)]:=⟨_,rfl⟩;rw[<-F]at V;have HB:Hid (d.length+(ps (bCF l)).length<=1000000):=by rw[Hid,F,List.length_append];simp only[List.length_cons,List.length_nil];exact j5.o
  have h7:Hid (bO U a S=d):=by rw[Hid,F];exact d6.o hk
  have z0:Hid (bNP U a S S=(S.length:Int)):=d8.o hk;clear F;have j6:Hid (IsT y l):=N;have L0:=LpS.start (L:=bCF l) V (z2.o _ N);have a1:Hid _:=fun z=>a3.o d _ y z h7.o z0.o k8.o X5.o N;have y7:=HB.o;have d1:=g7.o;clear V N X5 k8 a3 R h7 z0;go_wp2_with fail
  go_loopg [43] (aD l) (fun q a5 wr=>∃ (i:Nat) (J:Sl),a5= Qc i/\i<=aD l/\aD l<=i+q/\J.length+(ps (aL i (bCF l))).length<=1000000/\LpS H O X it D M m U (bCF l) d y i J wr)
  case atStart=>exact⟨0,d,rfl,Qn _,Oa,y7,L0⟩
  case round=>
   clear L0 m3 y7;obtain⟨i,J,rfl,d2,hm,hb,c⟩:=hrel;have k7:Hid _:=c
   by_cases j2:i < aD l
   ·have k3:(i:Int) < (aD l:Int):=Oa
    obtain⟨b2,o2,a2,j,r2,u,k6⟩:=dK i (bCF l) (by rw[<-bLA];exact j2);have y9:=fE.drop i _ hA;rw[u]at y9 hb;obtain⟨j4,⟨I,hG⟩,_⟩:=y9
    obtain⟨gg,rfl,h3⟩:=gQ Oy g4.o j6.o c.fr Pt.body z4 u (by
     cases j with
     |nil=>exact absurd I (by unfold Ws bK;omega)
     |node b o a l r=>
      obtain⟨_,a6,b6,e,_⟩:=I.parts;exact⟨b,o,a,l,r,rfl,fun h=>(by rw[h]at e;cases e),fun h=>(by rw[h]at e;cases e)⟩)
    obtain⟨b5,P,z8⟩:=I.g Oy;have k5:=c.rest;rw[u]at k5;have y1:=kI b2 o2 a2 j r2;rw[Oh,if_neg (by rw[j4];intro h;exact absurd h.2 Ob)]at y1;have z9:=lS U j J;have z3:Hid ((siR U j J).length+(ps (aL (i+1) (bCF l))).length<=1000000):=by rw[Hid,k6];omega
    have h0:=hG J wr c.rs k5.1 Oa;rw[z8]at h3 h0;have h2:Hid _:=fun w3=>k7.o.step (w3:=w3) Oy g5.o g6.o u k6;clear hG I u k6 k5 c y1 z9 hb;go_wp2_with fail
    refine h0.mono ?_;rintro e z ⟨rfl,h6,i6,x6⟩;obtain⟨q,rfl⟩:∃ q,gk=q+1:=⟨gk - 1,Oa⟩
    have fin:∃ (K:Nat) (J:Sl),Qc ((i:Int)+1)= Qc K/\K<=aD l/\aD l<=K+q/\J.length+(ps (aL K (bCF l))).length<=1000000/\LpS H O X it D M m U (bCF l) d y K J z:=
     ⟨i+1,_,Od,Oa,Oa,z3.o,h2.o z h6 i6 x6⟩
    clear h2 k7 h6 i6 x6 z3;go_wp2;go_roundg q
    case rel=>exact fin
    case measure=>omega
   ·have k3: ¬(i:Int) < (aD l:Int):=Oa
    have y8:i=aO (bCF l):=by rw[<-bLA];omega
    have fin:aA7 H O X it D M m U (Pt (.node b o a l .nil)) (siT U (.node b o a l .nil) S) (siR U (.node b o a l .nil) S) w (.returned (.tuple #[])) wr:=by
     subst y8;obtain⟨e1,j⟩:=c.fin;have hr:=c.rs;rw[e1]at hr;exact a1.o wr c.fr hr j
    clear y8 c k7 a1;go_wp2;go_end0
    exact fin
 ·have d3: ¬(0:Int) < (mG U (p:Int):Int):=Oa
  go_quiet (fail)
  have V:=T.drewN nq;have Q:Fr H F0 C (C.drewN nq):=(Fr.refl _ _ _).drewN nq;have k8:Hid (Own (C.drewN nq) b {a with f:=(-1:Int)} l .nil):=cX z7.o Q F0.body (fun P v ty Z=>Z) (by have:=HT.o;show a.a≠20;omega);have N:IsT (C.drewN nq) l:=R.o C _ (Q.mono F0.to) i1;have X5:Hid (Fr H (Pt (.node b o a l .nil)) w (C.drewN nq)):=X1.o.t (Q.mono F0.to);obtain⟨_,_,m3⟩:=g8.o _ _ k8.o;rw[z4]at m3;clear n1 n2 n3 i1 T X1 z7 Q c0 p2 g0 k4;generalize C.drewN nq=y at*;obtain⟨d,F⟩:∃ d,d=S:=⟨_,rfl⟩;rw[<-F]at V;have HB:Hid (d.length+(ps (bCF l)).length<=1000000):=by rw[Hid,F];have:=j5.o;omega
  have h7:Hid (bO U a S=d):=by rw[Hid,F];exact d7.o hk
  have z0:Hid (bNP U a S S= -1):=d9.o hk;clear F;have j6:Hid (IsT y l):=N;have L0:=LpS.start (L:=bCF l) V (z2.o _ N);have a1:Hid _:=fun z=>a3.o d _ y z h7.o z0.o k8.o X5.o N;have y7:=HB.o;have d1:=g7.o;clear V N X5 k8 a3 R h7 z0;go_wp2_with fail
  go_loopg [43] (aD l) (fun q a5 wr=>∃ (i:Nat) (J:Sl),a5= Qc i/\i<=aD l/\aD l<=i+q/\J.length+(ps (aL i (bCF l))).length<=1000000/\LpS H O X it D M m U (bCF l) d y i J wr)
  case atStart=>exact⟨0,d,rfl,Qn _,Oa,y7,L0⟩
  case round=>
   clear L0 m3 y7;obtain⟨i,J,rfl,d2,hm,hb,c⟩:=hrel;have k7:Hid _:=c
   by_cases j2:i < aD l
   ·have k3:(i:Int) < (aD l:Int):=Oa
    obtain⟨b2,o2,a2,j,r2,u,k6⟩:=dK i (bCF l) (by rw[<-bLA];exact j2);have y9:=fE.drop i _ hA;rw[u]at y9 hb;obtain⟨j4,⟨I,hG⟩,_⟩:=y9
    obtain⟨gg,rfl,h3⟩:=gQ Oy g4.o j6.o c.fr Pt.body z4 u (by
     cases j with
     |nil=>exact absurd I (by unfold Ws bK;omega)
     |node b o a l r=>
      obtain⟨_,a6,b6,e,_⟩:=I.parts;exact⟨b,o,a,l,r,rfl,fun h=>(by rw[h]at e;cases e),fun h=>(by rw[h]at e;cases e)⟩)
    obtain⟨b5,P,z8⟩:=I.g Oy;have k5:=c.rest;rw[u]at k5;have y1:=kI b2 o2 a2 j r2;rw[Oh,if_neg (by rw[j4];intro h;exact absurd h.2 Ob)]at y1;have z9:=lS U j J;have z3:Hid ((siR U j J).length+(ps (aL (i+1) (bCF l))).length<=1000000):=by rw[Hid,k6];omega
    have h0:=hG J wr c.rs k5.1 Oa;rw[z8]at h3 h0;have h2:Hid _:=fun w3=>k7.o.step (w3:=w3) Oy g5.o g6.o u k6;clear hG I u k6 k5 c y1 z9 hb;go_wp2_with fail
    refine h0.mono ?_;rintro e z ⟨rfl,h6,i6,x6⟩;obtain⟨q,rfl⟩:∃ q,gk=q+1:=⟨gk - 1,Oa⟩
    have fin:∃ (K:Nat) (J:Sl),Qc ((i:Int)+1)= Qc K/\K<=aD l/\aD l<=K+q/\J.length+(ps (aL K (bCF l))).length<=1000000/\LpS H O X it D M m U (bCF l) d y K J z:=
     ⟨i+1,_,Od,Oa,Oa,z3.o,h2.o z h6 i6 x6⟩
    clear h2 k7 h6 i6 x6 z3;go_wp2;go_roundg q
    case rel=>exact fin
    case measure=>omega
   ·have k3: ¬(i:Int) < (aD l:Int):=Oa
    have y8:i=aO (bCF l):=by rw[<-bLA];omega
    have fin:aA7 H O X it D M m U (Pt (.node b o a l .nil)) (siT U (.node b o a l .nil) S) (siR U (.node b o a l .nil) S) w (.returned (.tuple #[])) wr:=by
     subst y8;obtain⟨e1,j⟩:=c.fin;have hr:=c.rs;rw[e1]at hr;exact a1.o wr c.fr hr j
    clear y8 c k7 a1;go_wp2;go_end0
    exact fin
end
section
variable {H O X:Nat} {it D M:Value} {m:Int} {U:List Tr}
theorem xY{b o:Nat}{a:Nd}{l r:Tr}{w W2 W3:World}{S:Sl}{x:Nat}(k:Ws x l)(E:Uq a l r)(g:a.a≠20)(c:a.a≠2/\a.a≠3/\a.a≠6/\a.a≠10)(n:Own w b a l r)(h:Fr H (Pt l) w W2)(q:IsT W2 (siT U l S))(e:Fr H (Pt r) W2 W3)(s:IsT W3 (siT U r (siR U l S))):
 IsT W3 (siT U (.node b o a l r) S)/\Fr H (Pt (.node b o a l r)) w W3:=by
 have u:=cX n h Pt.body (fun p c y d=>E.own_l p c d.2) g;have v:=cX u e Pt.body (fun p c y d=>E.own_r p c d.2) g;have t:=xR q e k (gO _ _ _) E.apart_
 have j:siT U (.node b o a l r) S= .node b o a (siT U l S) (siT U r (siR U l S)):=by
  show BT.node b o {a with f:=bNP U a S (siR U l (bO U a S))} (siT U l (bO U a S)) (siT U r (dE a (siR U l (bO U a S))))=_;rw[(kV (U:=U) (S:=S) (G:=S) c).1,(kV (U:=U) (S:=S) (G:=siR U l S) c).2.1,(kV (U:=U) (S:=S) (G:=siR U l S) c).2.2]
 rw[j];exact⟨⟨t,s,gZ v (gO _ _ _) (gO _ _ _)⟩,(h.mono Pt.left).t (e.mono Pt.right)⟩
theorem qU{b o:Nat}{a:Nd}{l r:Tr}{S:Sl}(c:a.a≠2/\a.a≠3/\a.a≠6/\a.a≠10):siR U (.node b o a l r) S=siR U r (siR U l S):=by
 grind[siR,dE,bO]
theorem aRV{b o:Nat}{a:Nd}{l r:Tr}{S:Sl}{k:Int}(h:a.a=2/\k=1\/a.a=10/\k=2):siT U (.node b o a l r) S= .node b o {a with f:=(S.length:Int)} (siT U l (S++[(k,a.b)])) (siT U r (siR U l (S++[(k,a.b)])))/\siR U (.node b o a l r) S=siR U r (siR U l (S++[(k,a.b)])):=by
 grind[bO,dE,bNP,siR,siT]
theorem aQX{b o:Nat}{a:Nd}{l r:Tr}(P:Ws 0 (.node b o a l r))(N:aUI H (.node b o a l r))(T:(ps (.node b o a l r)).Nodup)(z:a.a=2\/a.a=4\/a.a=5->Ws 0 l/\GSi 197 H O X it D M m U bCH l)(s:a.a=6->GSi 252 H O X it D M m U cB (.node b o a l r))(c:a.a=3->GSi 251 H O X it D M m U cB (.node b o a l r)):GSi 197 H O X it D M m U bCH (.node b o a l r):=by
 intro S w h hi y;obtain⟨a4,sx,sy,x,y3,y4⟩:=P.parts
 have Y:a.a < 7:=by
  rcases Qt a.a 7 with h|h
  ·exact h
  ·exfalso;unfold sig at x;rw[if_pos rfl]at x;rw[Oh,Oh,Oh,Oh,Oh]at x;cases x
 have V:a.a=0\/a.a=1->l= .nil:=fun h=>by
  have:sx=99:=by rcases h with h|h<;>rw[h]at x<;>cases x<;>rfl
  subst this;exact y3.nil_of
 have B:a.a≠6->r= .nil:=fun h=>by
  have:sy=99:=by
   have p:a.a=0\/a.a=1\/a.a=2\/a.a=3\/a.a=4\/a.a=5:=Oa
   rcases p with p|p|p|p|p|p<;>rw[p]at x<;>cases x<;>rfl
  subst this;exact y4.nil_of
 have W:H<=b:=N.2.2 (by unfold gY;omega);have q:=hi.2.2;have E:=dZ T;have K:=kI b o a l r;have hv:bCH (.node b o a l r)= .iface (bZ a.a) (Qd b):=Oh;rw[hv];clear hv x;have t2:=fun u F=>pT u F w;have t3:=fun u F=>xL u F w;have t4:=fun u F=>mX u F w;have t5:=fun u F=>rP u F w;have t6:=fun u F=>rQ u F w
 by_cases g:a.a=2
 ·obtain rfl:=B Oa;obtain⟨k5,y1⟩:=z (.l g);obtain⟨u,Z,y5⟩:=k5.g Oy;rw[Oh,if_pos ⟨Oa,by rw[g];rfl⟩]at K
  have n1:w.cell? ⟨b,1,none⟩=some (Qc a.b):=by
   obtain⟨cs,c,hn,_⟩:=aI q (n:=2) g;rw[cell_of_row _ _ _ _ _ _ c];exact hn.2.1
  obtain⟨eT,eR⟩:=aRV (U:=U) (b:=b) (o:=o) (l:=l) (r:= .nil) (S:=S) (k:=1) (.l ⟨g,rfl⟩);rw[eT,eR];have HL:Hid (GSi 197 H O X it D M m U bCH l):=y1;have HK:Hid (a.a=2):=g;have HU:Hid (Uq a l .nil):=E;have HI:Hid (IsT w (.node b o a l .nil)):=hi;have HB:Hid (H<=b):=W;have y6:Hid (S.length+1+(ps l).length<=1000000):=by rw[Hid];have h0:(ps (.nil:Tr)).length=0:=rfl;omega
  rw[show bZ a.a=393 by rw[g];rfl];clear V B z s c q g y1 Y E T hi N P eT eR K y W;go_enter func197,ntmps197
  go_wp2_with fail
  refine(vK 1 a.b w h (Oi y6.o)).mono ?_;rintro e I ⟨rfl,h4,x4⟩;have o4:Own I b a l .nil:=cX HI.o.2.2 x4 F0.body (fun Z d ty hq=>hq) (Oi HK.o);have i4:IsT I l:=IsT.fr x4 (fun t Z d=>absurd d id) k5 HI.o.1 (fun _ _ _ h=>h);obtain⟨h5,x5,o5,⟨q5,c5⟩,z5⟩:=mZ (o:=4) (i:=(S.length:Int)) h4 o4 HB.o (.l ⟨.l HK.o,rfl⟩);have i5:IsT (I.setCell ⟨b,4,none⟩ (Qc (S.length:Int))) l:=IsT.fr x5 (fun t Z d=>(Po.body t Z d).e) k5 i4 (Po.o HU.o.own_l)
  have n3:(I.setCell ⟨b,4,none⟩ (Qc (S.length:Int))).cell? ⟨b,3,none⟩=some (bCH l):=by
   obtain⟨cs,c,_,v,_⟩:=aI o5 (n:=2) HK.o;rw[cell_of_row _ _ _ _ _ _ c];exact v
  have X5:Hid (Fr H (Pt (.node b o a l .nil)) w (I.setCell ⟨b,4,none⟩ (Qc (S.length:Int)))):=(x4.mono F0.to).t ((show Fr H (Po a) I _ from x5).mono Po.to);have y7:Hid (Own (I.setCell ⟨b,4,none⟩ (Qc (S.length:Int))) b {a with f:=(S.length:Int)} l .nil):=o5;have j:=HL.o _ _ h5 i5 (by have:=y6.o;rw[List.length_append];simp only[List.length_cons,List.length_nil];omega);rw[y5]at n3 j;clear o4 o5 x4 x5 i4 h4 n1 i5 h5;go_upto_region 4 with fail
  generalize I.setCell ⟨b,4,none⟩ (Qc (S.length:Int))=W5 at*;go_wp2_with fail
  refine j.mono ?_;rintro e W6 ⟨rfl,s,i6,x6⟩;go_wp2;go_end0
  have o6:=cX y7.o x6 Pt.body (fun Z d ty hq=>HU.o.own_l Z d hq.2) (by have:=HK.o;show a.a≠20;omega);exact⟨rfl,s,⟨i6,trivial,gZ o6 (gO _ _ _) (Sh.refl _)⟩,X5.o.t (x6.mono Pt.left)⟩
 by_cases Q:a.a=3
 ·have j:=c Q S w h hi y;have k1:Calls prog 251 #[Qd X,Qd b] w _:=j;rw[show bZ a.a=396 by rw[Q];rfl];clear V B z s c q g Q j Y E T hi y3 y4 N P K y W;go_enter func197,ntmps197
  go_wp2_with fail
  refine k1.mono ?_;rintro e W2 ⟨rfl,p,i2,x2⟩;go_wp2;go_end0
  exact⟨rfl,p,i2,x2⟩
 by_cases R:a.a=6
 ·have j:=s R S w h hi y;have k1:Calls prog 252 #[Qd X,Qd b] w _:=j;rw[show bZ a.a=403 by rw[R];rfl];clear V B z s c q g Q R j Y E T hi y3 y4 N P K y W;go_enter func197,ntmps197
  go_wp2_with fail
  refine k1.mono ?_;rintro e W2 ⟨rfl,p,i2,x2⟩;go_wp2;go_end0
  exact⟨rfl,p,i2,x2⟩
 have d:a.a≠2/\a.a≠3/\a.a≠6/\a.a≠10:=Oa
 obtain rfl:=B R;rw[qU d]
 by_cases a1:a.a=4\/a.a=5
 ·obtain⟨k5,y1⟩:=z (.r a1);obtain⟨u,Z,y5⟩:=k5.g Oy
  have m3:w.cell? ⟨b,0,none⟩=some (bCH l):=by
   rcases a1 with A|A
   ·obtain⟨cs,c,v⟩:=aI q (n:=4) A;rw[cell_of_row _ _ _ _ _ _ c];exact v
   ·obtain⟨cs,c,v⟩:=aI q (n:=5) A;rw[cell_of_row _ _ _ _ _ _ c];exact v
  have j:=y1 S w h hi.1 Oa;rw[y5]at m3 j;have a2:Hid _:=fun W2 x2 i2=>xY (H:=H) (U:=U) (S:=S) (o:=o) (W2:=W2) (W3:=W2) k5 E (by omega:a.a≠20) d q x2 i2 (Fr.refl _ _ _) trivial;rcases a1 with A|A
  ·rw[show bZ a.a=398 by rw[A];rfl];clear V B z s c q g Q R A y1 Y E T hi N P K y W d;go_enter func197,ntmps197
   go_wp2_with fail
   refine j.mono ?_;rintro e W3 ⟨rfl,v,i3,x3⟩;go_wp2;go_end0
   exact⟨rfl,v,a2.o W3 x3 i3⟩
  ·rw[show bZ a.a=401 by rw[A];rfl];clear V B z s c q g Q R A y1 Y E T hi N P K y W d;go_enter func197,ntmps197
   go_wp2_with fail
   refine j.mono ?_;rintro e W3 ⟨rfl,v,i3,x3⟩;go_wp2;go_end0
   exact⟨rfl,v,a2.o W3 x3 i3⟩
 ·have a3:a.a=0\/a.a=1:=Oa
  obtain rfl:=V a3;have y2:=xY (H:=H) (U:=U) (o:=o) (S:=S) (W2:=w) (W3:=w) y3 E (by omega:a.a≠20) d q (Fr.refl _ _ _) trivial (Fr.refl _ _ _) trivial;rcases a3 with k0|k0
  ·rw[show bZ a.a=362 by rw[k0];rfl];clear V B z s c q g Q R k0 a1 Y E T N P K y W d;go_enter func197,ntmps197
   go_wp2;go_end0
   exact⟨rfl,h,y2⟩
  ·rw[show bZ a.a=359 by rw[k0];rfl];clear V B z s c q g Q R k0 a1 Y E T N P K y W d;go_enter func197,ntmps197
   go_wp2;go_end0
   exact⟨rfl,h,y2⟩
theorem aR5{b o:Nat}{a:Nd}{l r:Tr}(V:Ws 1 (.node b o a l r))(y2:(ps (.node b o a l r)).Nodup)(Q:a.a=7->Ws 0 l/\Ws 0 r/\GSi 197 H O X it D M m U bCH l/\GSi 197 H O X it D M m U bCH r)(R:a.a=8->Ws 1 l/\Ws 1 r/\GSi 199 H O X it D M m U bCH l/\GSi 199 H O X it D M m U bCH r):GSi 199 H O X it D M m U bCH (.node b o a l r):=by
 intro S w h hi hS;obtain⟨y1,sx,sy,k0,Z,Y⟩:=V.parts
 have ht:a.a=7\/a.a=8:=by
  by_cases h1:a.a=7
  ·exact .l h1
  by_cases c:a.a=8
  ·exact .r c
  ·exfalso;simp[sig,h1,c]at k0
 have E:=dZ y2;have y:a.a≠20:=Oa
 have q:=hi.2.2;have I:a.a≠2/\a.a≠3/\a.a≠6/\a.a≠10:=Oa
 have k2:=kI b o a l r;have y4:=lS U l S;have y6:S.length+(ps l).length<=1000000:=Oa
 have y5:(siR U l S).length+(ps r).length<=1000000:=Oa
 have hv:bCH (.node b o a l r)= .iface (bZ a.a) (Qd b):=if_neg y;rw[hv,qU I];clear hv k0 y1;have t1:=fun B a1=>pU B a1 w;have t2:=fun B a1=>uF B a1 w;have a2:Hid _:=fun W2 W3 f v F x=>xY (H:=H) (U:=U) (o:=o) (S:=S) (W2:=W2) (W3:=W3) Z E y I q f v F x;have RK:Hid _:=fun W2 f=>gV (H:=H) (W2:=W2) Y E hi f y;rcases ht with K|N
 ·obtain⟨t,s,A,z⟩:=Q K;obtain⟨B,a3,y0⟩:=t.g Oy;obtain⟨u2,p2,k9⟩:=s.g Oy;have P:Hid (GSi 197 H O X it D M m U bCH r):=z
  have j:∀ d,Own d b a l r->d.cell? ⟨b,2,none⟩=some (bCH l)/\d.cell? ⟨b,3,none⟩=some (bCH r):=by
   intro d T;obtain⟨cs,u,_,_,c,g⟩:=aI T (n:=7) K;exact⟨Og u c,Og u g⟩
  have m2:=(j w q).1;have y3:Hid _:=j;have p:=A S w h hi.1 y6;rw[y0]at m2 p;rw[show bZ a.a=253 by rw[K];rfl];clear Q R A z q E y2 hi V y I Z Y t s j K h k2 y4 hS;go_enter func199,ntmps199
  go_wp2_with fail
  refine p.mono ?_;rintro e W2 ⟨rfl,c,v,f⟩;obtain⟨W,o2⟩:=RK.o W2 f;have m3:=(y3.o W2 o2).2;have k:=P.o _ _ c W y5;rw[k9]at m3 k;go_wp2_with fail
  refine k.mono ?_;rintro e W3 ⟨rfl,g,x,F⟩;go_wp2;go_end0
  exact⟨rfl,g,a2.o W2 W3 f v F x⟩
 ·obtain⟨t,s,A,z⟩:=R N;obtain⟨B,a3,y0⟩:=t.g Ox;obtain⟨u2,p2,k9⟩:=s.g Ox;have P:Hid (GSi 199 H O X it D M m U bCH r):=z
  have j:∀ d,Own d b a l r->d.cell? ⟨b,1,none⟩=some (bCH l)/\d.cell? ⟨b,2,none⟩=some (bCH r):=by
   intro d T;obtain⟨cs,u,_,c,g⟩:=aI T (n:=8) N;exact⟨Og u c,Og u g⟩
  have m2:=(j w q).1;have y3:Hid _:=j;have p:=A S w h hi.1 y6;rw[y0]at m2 p;rw[show bZ a.a=407 by rw[N];rfl];clear Q R A z q E y2 hi V y I Z Y t s j N h k2 y4 hS;go_enter func199,ntmps199
  go_wp2_with fail
  refine p.mono ?_;rintro e W2 ⟨rfl,c,v,f⟩;obtain⟨W,o2⟩:=RK.o W2 f;have m3:=(y3.o W2 o2).2;have k:=P.o _ _ c W y5;rw[k9]at m3 k;go_wp2_with fail
  refine k.mono ?_;rintro e W3 ⟨rfl,g,x,F⟩;go_wp2;go_end0
  exact⟨rfl,g,a2.o W2 W3 f v F x⟩
end
section
variable {H O X:Nat} {it D M:Value} {m:Int} {U:List Tr}
theorem aPQ{b o:Nat}{a:Nd}{l r:Tr}(hw:Ws 2 (.node b o a l r))(hH:aUI H (.node b o a l r))(y3:(ps (.node b o a l r)).Nodup)(Z:a.a=9\/a.a=10\/a.a=13\/a.a=14->Ws 0 l/\GSi 197 H O X it D M m U bCH l)(y4:a.a=10->Ws 0 r/\GSi 197 H O X it D M m U bCH r)(Y:a.a=11\/a.a=12->Ws 1 l/\GSi 199 H O X it D M m U bCH l)(hB:a.a=12->Ws 4 r/\GSi 76 H O X it D M m U bCH r)(hI:a.a=11->∃ a2 a3 B p P,r= .node a2 a3 B p P/\B.a=18/\Ws 4 p/\Ws 4 P/\GSi 76 H O X it D M m U bCH p/\GSi 76 H O X it D M m U bCH P):
 GSi 129 H O X it D M m U bCH (.node b o a l r):=by
 obtain⟨b7,sx,sy,k2,y2,y1⟩:=hw.parts;obtain⟨j8,j7⟩:=jR hw;have E:=dZ y3;have z8:=hH.2.2 (by unfold gY;omega);intro S w h hi hS;have V:a.a≠20:=Oa
 have y:=hi.2.2;have k5:=kI b o a l r;have y6:=lS U l S;have hv:bCH (.node b o a l r)= .iface (bZ a.a) (Qd b):=if_neg V;rw[hv];have t1:=fun u F=>kG u F w;have t2:=fun u F=>gN u F w;have t3:=fun u F=>pB u F w;have t4:=fun u F=>iG u F w;have t5:=fun u F=>iL u F w;have t6:=fun u F=>pR u F w;have HU:Hid _:=E
 by_cases z:a.a=10
 ·obtain⟨q,A⟩:=Z (.r (.l z));obtain⟨k4,y8⟩:=y4 z;obtain⟨u,p,K⟩:=q.g Oy;obtain⟨u2,p2,y9⟩:=k4.g Oy;rw[Oh,if_pos ⟨Oa,by rw[z];rfl⟩]at k5
  have n1:w.cell? ⟨b,1,none⟩=some (Qc a.b):=by
   obtain⟨cs,j,hn,_⟩:=aI y (n:=10) z;rw[cell_of_row _ _ _ _ _ _ j];exact hn.2.1
  have N:∀ s a',a'.a=10->Own s b a' l r->s.cell? ⟨b,3,none⟩=some (bCH l)/\s.cell? ⟨b,4,none⟩=some (bCH r):=by
   intro s a' j9 ho;obtain⟨cs,j,_,Q,h4,_⟩:=aI ho (n:=10) j9;exact⟨Og j Q,Og j h4⟩
  obtain⟨eT,eR⟩:=aRV (U:=U) (b:=b) (o:=o) (l:=l) (r:=r) (S:=S) (k:=2) (.r ⟨z,rfl⟩);rw[eT,eR];have y5:Hid _:=N;have HL:Hid _:=A;have HR:Hid _:=y8;have HK:Hid _:=z;have HI:Hid _:=hi;have HB:Hid (H<=b):=z8;have z0:=lS U l (S++[(2,a.b)]);rw[List.length_append]at z0;simp only[List.length_cons,List.length_nil]at z0;have z9:Hid (S.length+1+(ps l).length<=1000000):=by rw[Hid];omega
  have g8:Hid ((siR U l (S++[(2,a.b)])).length+(ps r).length<=1000000):=by rw[Hid];omega
  rw[show bZ a.a=329 by rw[z];rfl];clear Z y4 Y hB hI hw hH y3 E y hv k2 y2 y1 hi z N A y8 eT eR k5 y6 z0 hS z8 j8 j7 V;go_enter func129,ntmps129
  go_wp2_with fail
  refine(vK 2 a.b w h (Oi z9.o)).mono ?_;rintro e W4 ⟨rfl,h4,x4⟩;have o4:=cX HI.o.2.2 x4 F0.body (fun p c ty hq=>hq) (Oi HK.o);have i4:=IsT.fr x4 (fun t p c=>absurd c id) q HI.o.1 (fun _ _ _ h=>h);have j4:=IsT.fr x4 (fun t p c=>absurd c id) k4 HI.o.2.1 (fun _ _ _ h=>h);obtain⟨h5,x5,o5,⟨q5,c5⟩,z5⟩:=mZ (o:=5) (i:=(S.length:Int)) h4 o4 HB.o (.r ⟨HK.o,rfl⟩);have i5:=IsT.fr x5 (fun t p c=>(Po.body t p c).e) q i4 (Po.o HU.o.own_l);have j5:=IsT.fr x5 (fun t p c=>(Po.body t p c).e) k4 j4 (Po.o HU.o.own_r);have n3:=(y5.o _ {a with f:=(S.length:Int)} HK.o o5).1;have X5:Hid (Fr H (Pt (.node b o a l r)) w (W4.setCell ⟨b,5,none⟩ (Qc (S.length:Int)))):=(x4.mono F0.to).t ((show Fr H (Po a) W4 _ from x5).mono Po.to);have g6:Hid (Own (W4.setCell ⟨b,5,none⟩ (Qc (S.length:Int))) b {a with f:=(S.length:Int)} l r):=o5;have g7:Hid _:=j5;have v:=HL.o _ _ h5 i5 (by have:=z9.o;rw[List.length_append];simp only[List.length_cons,List.length_nil];omega);rw[K]at n3 v;clear o4 o5 x4 x5 i4 j4 h4 n1 i5 j5 h5;go_upto_region 7 with fail
  generalize W4.setCell ⟨b,5,none⟩ (Qc (S.length:Int))=W5 at*;go_wp2_with fail
  refine v.mono ?_;rintro e W6 ⟨rfl,h6,i6,x6⟩;have o6:=cX g6.o x6 Pt.body (fun p c ty hq=>HU.o.own_l p c hq.2) (by have:=HK.o;show a.a≠20;omega);have j6:=IsT.fr x6 (fun t p c=>(Pt.body t p c).e) k4 g7.o (Pt.o HU.o.apart);have n4:=(y5.o W6 {a with f:=(S.length:Int)} HK.o o6).2;have W:=HR.o _ _ h6 j6 g8.o;rw[y9]at n4 W;have g5:Hid (Own W6 b {a with f:=(S.length:Int)} l r):=o6;clear o6 j6;go_wp2_with fail
  refine W.mono ?_;rintro e W7 ⟨rfl,h7,i7,x7⟩;go_wp2;go_end0
  have o7:=cX g5.o x7 Pt.body (fun p c ty hq=>HU.o.own_r p c hq.2) (by have:=HK.o;show a.a≠20;omega);have l7:=xR i6 x7 q (gO _ _ _) HU.o.apart_;exact⟨rfl,h7,⟨l7,i7,gZ o7 (gO _ _ _) (gO _ _ _)⟩,(X5.o.t (x6.mono Pt.left)).t (x7.mono Pt.right)⟩
 have c:a.a≠2/\a.a≠3/\a.a≠6/\a.a≠10:=Oa
 have z1:S.length+(ps l).length<=1000000:=Oa
 have g4:(siR U l S).length+(ps r).length<=1000000:=Oa
 rw[qU c];have a4:Hid _:=fun W2 W3 d x T i3=>xY (H:=H) (U:=U) (o:=o) (S:=S) (W2:=W2) (W3:=W3) y2 E V c y d x T i3;have RK:Hid _:=fun W2 d=>gV (H:=H) (W2:=W2) y1 E hi d V
 by_cases I:a.a=11
 ·obtain⟨a2,a3,B,p,P,rfl,hz,z4,z2,z7,z6⟩:=hI I;obtain⟨q,A⟩:=Y (.l I);obtain⟨u,pp,K⟩:=q.g Ox;obtain⟨ao,cp,j1⟩:=z4.W Ox;obtain⟨b5,b6,j0⟩:=z2.W Ox;have HP:Hid (GSi 76 H O X it D M m U bCH p):=z7;have HQ:Hid (GSi 76 H O X it D M m U bCH P):=z6
  have N:∀ s,Own s b a l (.node a2 a3 B p P)->s.cell? ⟨b,0,none⟩=some (bCH l)/\s.cell? ⟨b,1,none⟩=some (bCH p)/\s.cell? ⟨b,2,none⟩=some (bCH P):=by
   intro s ho;obtain⟨cs,j,h0,x',y',z',p',q',e,h1,g⟩:=aI ho (n:=11) I;simp only[BT.node.injEq]at e;obtain⟨rfl,rfl,rfl,rfl,rfl⟩:=e;exact⟨Og j h0,Og j h1,Og j g⟩
  have a7:=dZ (b:=a2) (o:=a3) E.right;have zp:B.a≠2/\B.a≠3/\B.a≠6/\B.a≠10:=Oa
  have a8:Hid _:=fun(w1:World) ho W2 W3 d x T i3=>xY (H:=H) (U:=U) (b:=a2) (o:=a3) (S:=siR U l S) (W2:=W2) (W3:=W3) (w:=w1) z4 a7 (by omega:B.a≠20) zp ho d x T i3;have a9:Hid _:=fun(w1:World) b1 W2 d=>gV (H:=H) (b:=a2) (o:=a3) (W2:=W2) (w:=w1) z2 a7 b1 d (by omega:B.a≠20);have y7:=kI a2 a3 B p P;have g3:=lS U p (siR U l S);have b2:(siR U l S).length+(ps p).length<=1000000:=Oa
  have b3:(siR U p (siR U l S)).length+(ps P).length<=1000000:=Oa
  have y5:Hid _:=N;have R:=(N w y).1;have v:=A S w h hi.1 z1;rw[K]at R v;rw[qU zp];have HT:Hid (a.a=11):=I;rw[show bZ a.a=332 by rw[I];rfl];clear Z y4 Y hB hI hw hH y3 E y hv k2 y2 y1 hi z I N A z7 z6 a7 zp k5 y7 y6 g3 h q c hS V;go_enter func129,ntmps129
  go_wp2_with fail
  refine v.mono ?_;rintro e W2 ⟨rfl,g,x,d⟩;obtain⟨j2,o2⟩:=RK.o W2 d;have m3:=(y5.o W2 o2).2.1;have W:=HP.o _ _ g j2.1 b2;rw[j1]at m3 W;go_wp2_with fail
  refine W.mono ?_;rintro e W3 ⟨rfl,Q,i3,T⟩;obtain⟨j3,z3⟩:=a9.o W2 j2 W3 T;have b4:Fr H (Pt (.node a2 a3 B p P)) W2 W3:=T.mono Pt.left;have o3:=cX o2 b4 Pt.body (fun p c ty hq=>HU.o.own_r p c hq.2) (Oi HT.o);have m4:=(y5.o W3 o3).2.2;have k7:=HQ.o _ _ Q j3 b3;rw[j0]at m4 k7;go_wp2_with fail
  refine k7.mono ?_;rintro e W4 ⟨rfl,h4,i4,x4⟩;go_wp2;go_end0
  obtain⟨g1,g2⟩:=a8.o W2 j2.2.2 W3 W4 T i3 x4 i4;exact⟨rfl,h4,a4.o W2 W4 d x g2 g1⟩
 by_cases a1:a.a=12
 ·obtain⟨q,A⟩:=Y (.r a1);obtain⟨k4,y8⟩:=hB a1;obtain⟨u,pp,K⟩:=q.g Ox;obtain⟨ao,cp,y9⟩:=k4.W Ox;have HR:Hid (GSi 76 H O X it D M m U bCH r):=y8
  have N:∀ s,Own s b a l r->s.cell? ⟨b,0,none⟩=some (bCH l)/\s.cell? ⟨b,1,none⟩=some (bCH r):=by
   intro s ho;obtain⟨cs,j,g,Q⟩:=aI ho (n:=12) a1;exact⟨Og j g,Og j Q⟩
  have R:=(N w y).1;have y5:Hid _:=N;have v:=A S w h hi.1 z1;rw[K]at R v;rw[show bZ a.a=338 by rw[a1];rfl];clear Z y4 Y hB hI hw hH y3 E y hv k2 y2 y1 hi z I a1 N A y8 k5 y6 h q k4 c hS V;go_enter func129,ntmps129
  go_wp2_with fail
  refine v.mono ?_;rintro e W2 ⟨rfl,g,x,d⟩;obtain⟨j2,o2⟩:=RK.o W2 d;have m3:=(y5.o W2 o2).2;have W:=HR.o _ _ g j2 g4;rw[y9]at m3 W;go_wp2_with fail
  refine W.mono ?_;rintro e W3 ⟨rfl,Q,i3,T⟩;go_wp2;go_end0
  exact⟨rfl,Q,a4.o W2 W3 d x T i3⟩
 have k3:a.a=9\/a.a=13\/a.a=14:=Oa
 have g0:r= .nil:=by
  have:sy=99:=by rcases k3 with h|h|h<;>rw[h]at k2<;>cases k2<;>rfl
  subst this;exact y1.nil_of
 subst g0;obtain⟨q,A⟩:=Z Oa;obtain⟨u,pp,K⟩:=q.g Oy;have v:=A S w h hi.1 z1;rw[K]at v;rcases k3 with k9|a5|a6
 ·have R:w.cell? ⟨b,3,none⟩=some (bCH l):=by
   obtain⟨cs,j,_,Q,_⟩:=aI y (n:=9) k9;rw[cell_of_row _ _ _ _ _ _ j];exact Q
  rw[K]at R;rw[show bZ a.a=326 by rw[k9];rfl];clear Z y4 Y hB hI hw hH y3 E y hv k2 y2 y1 hi k9 z I a1 A k5 y6 h q c hS V;go_enter func129,ntmps129
  go_wp2_with fail
  refine v.mono ?_;rintro e W2 ⟨rfl,g,x,d⟩;go_wp2;go_end0
  exact⟨rfl,g,a4.o W2 W2 d x (Fr.refl _ _ _) trivial⟩
 ·have R:w.cell? ⟨b,0,none⟩=some (bCH l):=by
   obtain⟨cs,j,g⟩:=aI y (n:=13) a5;rw[cell_of_row _ _ _ _ _ _ j];exact g
  rw[K]at R;rw[show bZ a.a=341 by rw[a5];rfl];clear Z y4 Y hB hI hw hH y3 E y hv k2 y2 y1 hi a5 z I a1 A k5 y6 h q c hS V;go_enter func129,ntmps129
  go_wp2_with fail
  refine v.mono ?_;rintro e W2 ⟨rfl,g,x,d⟩;go_wp2;go_end0
  exact⟨rfl,g,a4.o W2 W2 d x (Fr.refl _ _ _) trivial⟩
 ·have R:w.cell? ⟨b,0,none⟩=some (bCH l):=by
   obtain⟨cs,j,g⟩:=aI y (n:=14) a6;rw[cell_of_row _ _ _ _ _ _ j];exact g
  rw[K]at R;rw[show bZ a.a=344 by rw[a6];rfl];clear Z y4 Y hB hI hw hH y3 E y hv k2 y2 y1 hi a6 z I a1 A k5 y6 h q c hS V;go_enter func129,ntmps129
  go_wp2_with fail
  refine v.mono ?_;rintro e W2 ⟨rfl,g,x,d⟩;go_wp2;go_end0
  exact⟨rfl,g,a4.o W2 W2 d x (Fr.refl _ _ _) trivial⟩
theorem aF5{l:Tr}(d:Ws 4 l)(Z:(ps l).Nodup)(hA:fE (fun e=>Ws 2 e/\GSi 129 H O X it D M m U bCH e) (bCF l)):GSi 76 H O X it D M m U bCH l:=by
 intro S w h hi N;obtain⟨ao,cp,V⟩:=d.W Ox;have a5:=fB Ox d;have k:=jU Ox d;have F:(ps (bCF l)).Nodup:=by rw[<-k];exact Z
 have E:=d.elems Ox
 have R:IsT w (bCF l):=by
  cases l with
  |nil=>trivial
  |node=>exact hi.1
 rw[k]at N;have y6:Hid ((ps (bCF l)).Nodup):=F;have y5:Hid (Ws 14 (bCF l)):=E;have y4:Hid (Ws 4 l):=d;have y7:Hid (IsT w l):=hi;have x:=LpS.start (L:=bCF l) h R
 have v:Hid (∀ wr,Fr H (Pt (bCF l)) w wr->SiW H O X it D M m U (siR U (bCF l) S) wr->IsT wr (siT U (bCF l) S)->aA7 H O X it D M m U (Pt l) (siT U l S) (siR U l S) w (.returned (.tuple #[])) wr):=by
  intro wr hx p ir;have T:Fr H (Pt l) w wr:=hx.mono fun t a1 P=>⟨P.1,by rw[k];exact P.2⟩;exact⟨rfl,by rw[aC3 Ox d];exact p,aG2 Ox d hi T Pt.body ir,T⟩
 rw[V];clear k F E R d Z hi h;go_enter func76,ntmps76
 go_wp2_with fail
 go_loopg [8] (aD l) (fun g a3 wr=>∃ (i:Nat) (J:Sl),a3= Qc i/\i<=aD l/\aD l<=i+g/\J.length+(ps (aL i (bCF l))).length<=1000000/\LpS H O X it D M m U (bCF l) S w i J wr)
 case atStart=>exact⟨0,S,rfl,Qn _,Oa,N,x⟩
 case round=>
  clear x;obtain⟨i,J,rfl,a4,hm,W,c⟩:=hrel;have u:Hid _:=c
  by_cases y2:i < aD l
  ·have h8:(i:Int) < (aD l:Int):=Oa
   obtain⟨b2,o2,a2,f,r2,j,s⟩:=dK i (bCF l) (by rw[<-bLA];exact y2);have k8:=fE.drop i _ hA;rw[j]at k8 W;obtain⟨y3,⟨n,I⟩,_⟩:=k8
   obtain⟨gg,rfl,h6⟩:=gQ Ox y4.o y7.o c.fr Pt.body V j (by
    cases f with
    |nil=>exact absurd n (by unfold Ws bK;omega)
    |node b o a l r=>
     have:=jR n;exact⟨b,o,a,l,r,rfl,Oa,Oa⟩)
   obtain⟨a6,a1,y0⟩:=n.g Ov;have q:=c.rest;rw[j]at q;have Y:=kI b2 o2 a2 f r2;rw[Oh,if_neg (by rw[y3];intro h;exact absurd h.2 Ob)]at Y;have y1:=lS U f J;have k9:Hid ((siR U f J).length+(ps (aL (i+1) (bCF l))).length<=1000000):=by rw[Hid,s];omega
   have z:=I J wr c.rs q.1 Oa;rw[y0]at h6 z;have A:Hid _:=fun w3=>u.o.step (w3:=w3) Ox y5.o y6.o j s;clear I n j s q c Y y1 W;go_wp2_with fail
   refine z.mono ?_;rintro e y ⟨rfl,B,Q,x3⟩;obtain⟨g,rfl⟩:∃ g,gk=g+1:=⟨gk - 1,Oa⟩
   have fin:∃ (K:Nat) (J:Sl),Qc ((i:Int)+1)= Qc K/\K<=aD l/\aD l<=K+g/\J.length+(ps (aL K (bCF l))).length<=1000000/\LpS H O X it D M m U (bCF l) S w K J y:=
    ⟨i+1,_,Od,Oa,Oa,k9.o,A.o y B Q x3⟩
   clear A u B Q x3 k9;go_wp2;go_roundg g
   case rel=>exact fin
   case measure=>omega
  ·have h8: ¬(i:Int) < (aD l:Int):=Oa
   have k7:i=aO (bCF l):=by rw[<-bLA];omega
   have fin:aA7 H O X it D M m U (Pt l) (siT U l S) (siR U l S) w (.returned (.tuple #[])) wr:=by
    subst k7;obtain⟨e1,f⟩:=c.fin;have p:=c.rs;rw[e1]at p;exact v.o wr c.fr p f
   clear k7 c u v;go_wp2;go_end0
   exact fin
theorem aMV:∀ (n:Nat) (t:Tr),szT t<=n->aUI H t->(ps t).Nodup->Cv U.length t->
 (Ws 0 t->GSi 197 H O X it D M m U bCH t)/\(Ws 1 t->GSi 199 H O X it D M m U bCH t)/\(Ws 2 t->GSi 129 H O X it D M m U bCH t)/\(Ws 4 t->GSi 76 H O X it D M m U bCH t)/\
 (Ws 13 t->fE (fun e=>Ws 0 e/\GSi 197 H O X it D M m U bCH e) t)/\(Ws 14 t->fE (fun e=>Ws 2 e/\GSi 129 H O X it D M m U bCH e) t):=by
 intro n
 induction n with
 |zero=>intro t h;cases t<;>simp[szT]at h
 |succ n ih=>
  intro t hsz B j k2;cases t with
  |nil=>
   refine⟨(by grind[Ws,bK]),(by grind[Ws,bK]),(by grind[Ws,bK]),fun h=>?_,fun _=>trivial,fun _=>trivial⟩;exact aF5 h j trivial
  |node b o a l r=>
   have S:szT l<=n/\szT r<=n:=by grind[szT]
   obtain⟨I,s⟩:=xD B;have E:=dZ j;obtain⟨N,v,c3⟩:=k2.mk;have u:=ih l S.1 I E.left N;have K:=ih r S.2 s E.right v
   have a1:Ws 3 l->fE (fun e=>Ws 0 e/\GSi 197 H O X it D M m U bCH e) (bCF l):=by
    intro f;rcases f.lst (by omega)with rfl|⟨b2,o2,Z,F,rfl,k3,w⟩
    ·trivial
    ·have h5:szT F<=n:=by grind[szT]
     exact(ih F h5 I.1 (dZ E.left).left N.mk.1).2.2.2.2.1 w
   refine⟨fun f=>?_,fun f=>?_,fun f=>?_,fun f=>?_,fun f=>?_,fun f=>?_⟩
   ·obtain⟨Y,x,y,c,R,g⟩:=f.parts;refine aQX f B j (fun d=>?_) (fun d=>?_) (fun d=>?_)
    ·have:x=0:=by rcases d with h|h|h<;>rw[h]at c<;>cases c<;>rfl
     grind
    ·rw[d]at c;cases c
     grind[aKW]
    ·have:x=3:=by rw[d]at c;cases c;rfl
     grind[aR8]
   ·obtain⟨Y,x,y,c,R,g⟩:=f.parts;refine aR5 f j (fun d=>?_) (fun d=>?_)
    ·rw[d]at c;cases c;simp[*]
    ·rw[d]at c;cases c;simp[*]
   ·obtain⟨Y,x,y,c,R,g⟩:=f.parts;refine aPQ f B j (fun d=>?_) (fun d=>?_) (fun d=>?_) (fun d=>?_) (fun d=>?_)
    ·have:x=0:=by rcases d with h|h|h|h<;>rw[h]at c<;>cases c<;>rfl
     grind
    ·rw[d]at c;cases c;simp[*]
    ·have:x=1:=by rcases d with h|h<;>rw[h]at c<;>cases c<;>rfl
     grind
    ·rw[d]at c;cases c;simp[*]
    ·rw[d]at c;cases c;cases r with
     |nil=>grind[Ws,bK]
     |node x y z p q=>
      obtain⟨_,sp,sq,W,Q,P⟩:=g.parts
      have V:z.a=18:=by
       grind[sig]
      rw[V]at W;cases W;have T:szT p<=n/\szT q<=n:=by grind[szT]
      have u2:=dZ E.right;exact⟨x,y,z,p,q,rfl,V,Q,P,(ih p T.1 s.1 u2.left v.mk.1).2.2.2.1 Q,(ih q T.2 s.2.1 u2.right v.mk.2.1).2.2.2.1 P⟩
   ·obtain⟨b2,o2,Z,F,e,k3,w⟩:=(f.lst Oa).resolve_left Od;obtain⟨rfl,rfl,rfl,rfl,rfl⟩:=e;exact aF5 f j (u.2.2.2.2.2 w)
   ·obtain⟨A,k,g⟩:=aY Oa f;exact⟨A,⟨k,u.1 k⟩,K.2.2.2.2.1 g⟩
   ·obtain⟨A,k,g⟩:=aY Ox f;exact⟨A,⟨k,u.2.2.1 k⟩,K.2.2.2.2.2 g⟩
end
end Go.Proofs.YtikffmloeifkpaaGreatDoor
