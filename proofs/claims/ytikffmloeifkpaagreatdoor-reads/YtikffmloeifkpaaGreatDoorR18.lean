/- Contracts. -/
import Derived.Test.YtikffmloeifkpaaGreatDoorR17
set_option maxHeartbeats 8000000
set_option maxRecDepth 100000
namespace Go.Proofs.YtikffmloeifkpaaGreatDoor
open Go.RowKit Go.Lib Go.Deep Go.ChangeMaps Go.MapKept Tryz
section
variable {H O X:Nat} {it D M:Value} {m:Int} {U:List Tr}
def wV(s:Nat):Bool:=s==5||s==6||s==15||s==16||s==20||s==21||s==22||s==99
def aHB(o:Option (Nat × Nat)):Bool:=match o with
 |none=>true
 |some (x,y)=>wV x&&wV y
theorem aDE:∀ s < 24,∀ n < 21,wV s=true->aHB (sig s n)=true/\((n==2||n==3||n==6||n==10)=true->(sig s n).isNone=true):=Ob
theorem yC{s n x y:Nat}(h:sig s n=some (x,y))(a:wV s=true):(n≠2/\n≠3/\n≠6/\n≠10)/\wV x=true/\wV y=true:=by
 grind[aHB,aDE,aHE,aBT]
theorem nI{b o:Nat}{a:Nd}{l r:Tr}{S:Sl}(c:a.a≠2/\a.a≠3/\a.a≠6/\a.a≠10):siT U (.node b o a l r) S= .node b o a (siT U l S) (siT U r (siR U l S)):=by
 show BT.node b o {a with f:=bNP U a S (siR U l (bO U a S))} (siT U l (bO U a S)) (siT U r (dE a (siR U l (bO U a S))))=_;rw[(kV (U:=U) (S:=S) (G:=S) c).1,(kV (U:=U) (S:=S) (G:=siR U l S) c).2.1,(kV (U:=U) (S:=S) (G:=siR U l S) c).2.2]
theorem aNA:∀ (t:Tr) (s:Nat),Ws s t->wV s=true->∀ S,siR U t S=S/\siT U t S=t:=by
 intro t
 induction t with
 |nil=>intro s _ _ S;trivial
 |node b o a l r ihl ihr=>
  intro s c f S;obtain⟨_,x,y,g,d,e⟩:=c.parts
  grind[yC,qU,nI]
def aF(k:Nat):Tr->List Tr
 | .nil=>[]
 | .node _ _ _ e r=>if bN e=k then e::aF k r else aF k r
theorem bSH(k:Nat)(L:Tr):nH k L=(aF k L).map cB:=by
 induction L with
 |nil=>rfl
 |node b o a e r _ ih=>
  show(if bN e=k then _ else _)=(if bN e=k then _ else _:List Tr).map cB
  grind
theorem xT{b o:Nat}{a:Nd}{l:Tr}{x y:Nat}{z:Nd}{p q:Tr}{S:Sl}(g:a.a=17)(h:z.a=18)(c:Ws 6 l)(d:Ws 5 p):siR U (.node b o a l (.node x y z p q)) S=siR U q S/\siT U (.node b o a l (.node x y z p q)) S= .node b o a l (.node x y z p (siT U q S)):=by
 have e:=fun S=>aNA (U:=U) l 6 c rfl S;have f:=fun S=>aNA (U:=U) p 5 d rfl S
 grind[qU,nI]
theorem aK9{b o:Nat}{a:Nd}{l:Tr}{x y:Nat}{z:Nd}{p q:Tr}{S:Sl}{w w':World}(j:a.a=17)(h:z.a=18)(f:Ws 6 l)(c:Ws 5 p)(i:(ps (.node b o a l (.node x y z p q))).Nodup)(hi:IsT w (.node b o a l (.node x y z p q)))(g:Fr H (Pt q) w w')(e:IsT w' (siT U q S)):
 IsT w' (siT U (.node b o a l (.node x y z p q)) S)/\Fr H (Pt (.node b o a l (.node x y z p q))) w w':=by
 have u1:=dZ i;have u2:=dZ (b:=x) (o:=y) u1.right;rw[(xT j h f c).2];have d:Fr H (Pt (.node x y z p q)) w w':=g.mono Pt.right;refine⟨⟨IsT.fr d (fun t p c=>(Pt.body t p c).e) f hi.1 (Pt.o u1.apart_),⟨IsT.fr g (fun t p c=>(Pt.body t p c).e) c hi.2.1.1 (Pt.o u2.apart_),e,?_⟩,?_⟩,d.mono Pt.right⟩
 ·unfold Own;rw[h];trivial
 ·have k:=cX hi.2.2 d Pt.body (fun p c n e=>u1.own_r p c e.2) Oa;exact gZ k (Sh.refl _) ⟨rfl,rfl,rfl,rfl,rfl,rfl,rfl,rfl,fun _=>rfl,fun _=>rfl,Sh.refl _,gO _ _ _⟩
theorem aK6{e:Tr}(h:Ws 7 e)(f:bN e≠17):(∀ S,siR U e S=S/\siT U e S=e):=by
 obtain⟨b,o,a,l,r,rfl,j⟩:=iB h;have d:=j.resolve_right f;obtain⟨_,x,y,c,g,i⟩:=h.parts;rw[d]at c;cases c;obtain rfl:=g.nil_of;obtain rfl:=i.nil_of;intro S;rw[qU Oa,nI Oa];trivial
variable {L:Tr} {G:Sl} {B wr:World}
theorem LpS.skip(l:Ws 18 L)(s:(ps L).Nodup){J:Sl}:∀ (n i:Nat),aO L - i=n->i<=aO L->LpS H O X it D M m U L G B i J wr->J.length+(ps (aL i L)).length<=1000000->
 ∃ K,K<=aO L/\aF 17 (aL K L)=aF 17 (aL i L)/\LpS H O X it D M m U L G B K J wr/\J.length+(ps (aL K L)).length<=1000000/\(K=aO L\/∃ b o a e r,aL K L= .node b o a e r/\aL (K+1) L=r/\K < aO L/\bN e=17):=by
 intro n
 induction n with
 |zero=>grind
 |succ n ih=>
  intro i y hi h t;obtain⟨b,o,a,e,r,c,d⟩:=dK i L Oa
  by_cases j:bN e=17
  ·grind
  ·have g:=eX Ot i _ l;rw[c]at g;obtain⟨x,q,_⟩:=aY Ot g;obtain⟨f,p⟩:=aK6 (U:=U) q j J;have k:=h.rest;rw[c]at k;have st:=h.step (w3:=wr) Oa l s c d (by rw[f];exact h.rs) (by rw[p];exact k.1) (Fr.refl _ _ _);rw[f]at st;have z:=kI b o a e r;obtain⟨K,u,v,w⟩:=ih (i+1) Oa Oa st (by rw[d];rw[c]at t;omega);refine⟨K,u,?_,w⟩;rw[v,d,c];exact(if_neg j).symm
theorem aAG.get{w:World}(h:aAG H M U w){j:Nat}{e:Tr}(r:U[j]?=some e):∃ g c b o a l x y z p q,M= Qe g U.length c/\w.cell? ⟨g,j,none⟩=some (Qd b)/\e= .node b o a l (.node x y z p q)/\FnW w b a l p q:=by
 have t:j < U.length:=by
  grind
 obtain⟨b,o,a,l,x,y,z,p,q,d,n,_⟩:=h.own e Qg
 obtain⟨g,c,i⟩:∃ g c,M= Qe g U.length c:=by
  obtain⟨ao,c,d,s⟩:=eQ h.row
  grind
 have f:=h.row;rw[i]at f;have k:=f.cellAt j Oa;refine⟨g,c,b,o,a,l,x,y,z,p,q,i,?_,d,n⟩;rw[k,List.getElem?_map,r,d];rfl
theorem aQU:∀ (L:Tr),Ws 18 L->∀ e∈aF 17 L,∀ w,IsT w L->∃ b o a l x y z p q,e= .node b o a l (.node x y z p q)/\FnW w b a l p q/\Ws 5 p/\Ws 4 q:=by
 intro L
 induction L with
 |nil=>intro _ e c;cases c
 |node b o a e0 r _ ih=>
  intro C e c w hi;obtain⟨_,g,f⟩:=aY Ot C;have c:e∈(if bN e0=17 then e0::aF 17 r else aF 17 r):=c
  by_cases d:bN e0=17
  ·rw[if_pos d]at c;rcases List.mem_cons.1 c with rfl|c
   ·obtain⟨b,o,a,l,r,rfl,_⟩:=iB g;obtain⟨E,x,y,z,p,q,rfl,F,v,A⟩:=oO g d;refine⟨b,o,a,l,x,y,z,p,q,rfl,?_,v,A⟩;obtain⟨h,t,u,i,K,N,P,I,J,e,j,k,s⟩:=aI hi.1.2.2 (n:=17) d;obtain⟨rfl,rfl,rfl,rfl,rfl⟩:=e;exact⟨h,t,u,i,j,k,s⟩
   ·exact ih f e c w hi.2.1
  ·rw[if_neg d]at c;exact ih f e c w hi.2.1
theorem aR4:∀ (i:Nat) (L:Tr) {n:Nat},Cv n L->Cv n (aL i L):=by
 intro i
 induction i with
 |zero=>intro L n h;exact h
 |succ i ih=>
  intro L n h;cases L with
  |nil=>exact h
  |node b o a l r=>exact ih r h.mk.2.1
def aTJ(H O:Nat)(it D M:Value)(m:Int)(U:List Tr)(T:Tr)(w w':World):Prop:=∃ X,SiW H O X it D M m U (siR U T []) w'/\IsT w' (siT U T [])/\Fr H (Pt T) w w'
def aU8(H O:Nat)(it D M:Value)(m:Int)(U:List Tr)(T:Tr)(w:World):Ending->World->Prop:=fun e w'=>e= .returned (.tuple #[])/\aTJ H O it D M m U T w w'
theorem aH2{T:Tr}(s:Ws 8 T)(hF:aUI H T)(z8:(ps T).Nodup)(y8:Cv (aF 17 (bCF T)).length T)(z7:H<=O)(w:World)(hH:H<=w.1.size)(hi:IsT w T)(d:w.1[O]?=some (.cells (qM it D M m (.slice none 0 0)) 111 (0,0)))(R:w.ownsRow H 106 1 M (aF 17 (bCF T)).length ((aF 17 (bCF T)).map cB))(g0:(ps T).length<=900000):
 Calls prog 44 #[Qd O] w (aU8 H O it D M m (aF 17 (bCF T)) T w):=by
 obtain⟨U,z⟩:∃ U,U=aF 17 (bCF T):=⟨_,rfl⟩;rw[<-z]at y8 R ⊢;have hL:=s.elems Ot;have S:=jU Ot s;have k6:(ps (bCF T)).Nodup:=by rw[<-S];exact z8
 have k7:=fB Ot s;have g1:=(Oo d)
 have y0:Cv U.length (bCF T):=by
  cases T with
  |nil=>trivial
  |node b o a l r=>exact y8.mk.1
 have j5:aUI H (bCF T):=by
  cases T with
  |nil=>trivial
  |node b o a l r=>exact hF.1
 have a5:∀ w,IsT w T->IsT w (bCF T):=fun w hi=>by
  cases T with
  |nil=>trivial
  |node=>exact hi.1
 have b6:U.length<=10000:=by
  rw[bLA]at k7
  have:∀ L:Tr,(aF 17 L).length<=aO L:=by
   intro L
   induction L with
   |nil=>exact Ql _
   |node b o a e r _ ih=>
    show(if bN e=17 then e::aF 17 r else aF 17 r).length<=aO r+1
    split
    ·simp only[List.length_cons];omega
    ·omega
  have:=this (bCF T);rw[z];omega
 obtain⟨B,C⟩:∃ B,B=(w.setCell ⟨O,4,none⟩ (.slice none 0 0)).alloc (Qf #[Qd O] 156):=⟨_,rfl⟩;have zs:(w.setCell ⟨O,4,none⟩ (.slice none 0 0)).1.size=w.1.size:=by simp[World.setCell]
 have I:Fr H F0 w B:=by
  rw[C];refine((Fr.refl H F0 w).set z7 (fun c t ht e=>?_) _ _).alloc _ (by rw[zs];exact hH);rw[d]at e;simp only[Option.some.injEq,Obj.cells.injEq]at e;rw[<-e.2.1]at ht;exact absurd ht (by unfold bLB aK;decide)
 have Z:IsT B T:=IsT.fr I (fun t u d=>absurd d id) s hi (fun _ _ _ h=>h)
 have y4:B.1[O]?=some (.cells (qM it D M m (.slice none 0 0)) 111 (0,0)):=by
  rw[C];refine(On (by rw[zs];exact g1)).t ?_;have:=aM (o:=4) (.slice none 0 0) d;exact this
 have s1:SiW H O w.1.size it D M m U [] B:=by
  refine⟨?_,⟨.slice none 0 0,y4,World.ownsRow_nil _ _ _ _⟩,⟨kJ R I Oz (fun t u d=>absurd d id),fun e he=>?_⟩,hH,z7⟩
  ·rw[C,<-zs];exact Qk _ _
  ·rw[z]at he;exact aQU (bCF T) hL e he B (a5 _ Z)
 have L0:=LpS.start (L:=bCF T) s1 (a5 _ Z);have c4:w.cell? ⟨O,4,none⟩=some (.slice none 0 0):=Og d rfl
 have z4:w.frozen? ⟨O,4,none⟩=false:=by simp[World.frozen?,d]
 have c2:B.cell? ⟨O,2,none⟩=some M:=Og y4 rfl
 obtain⟨ao,cp,y3,_⟩:=eQ R
 have a7:Hid (∀ wr,Fr H (Pt (bCF T)) B wr->SiW H O w.1.size it D M m U (siR U (bCF T) []) wr->IsT wr (siT U (bCF T) [])->
  aTJ H O it D M m U T w wr):=by
  intro wr hx W ir;have z3:Fr H (Pt T) B wr:=hx.mono fun t u d=>⟨d.1,by rw[S];exact d.2⟩;exact⟨_,by rw[aC3 Ot s];exact W,aG2 Ot s Z z3 Pt.body ir,(I.mono F0.to).t z3⟩
 have z1:Hid ((ps (bCF T)).Nodup):=k6;have z0:Hid (Ws 18 (bCF T)):=hL;have g9:Hid (Cv U.length (bCF T)):=y0;have g8:Hid (aUI H (bCF T)):=j5;have g5:([]:Sl).length+(ps (bCF T)).length<=1000000:=by rw[<-S];simp only[List.length_nil];omega
 have g2:aF 17 (aL 0 (bCF T))=U.drop 0:=by rw[z];rfl
 rw[y3]at c2;have g7:Hid (M= .slice ao U.length cp):=y3;clear y8 z8 hF s hL S k6 k7 y0 j5 y4 s1 Z I hi a5 R g0 zs z y3;go_enter func44,ntmps44
 go_upto_region 2 with fail
 rw[<-C];clear C d c4 z4;go_wp2_with fail
 go_loopg [15] U.length (fun x a9 wr=>∃ (j i:Nat) (J:Sl),a9= Qc j/\j<=U.length/\U.length<=j+x/\i<=aO (bCF T)/\aF 17 (aL i (bCF T))=U.drop j/\J.length+(ps (aL i (bCF T))).length<=1000000/\LpS H O w.1.size it D M m U (bCF T) [] B i J wr)
 case atStart=>exact⟨0,0,[],rfl,Qn _,Oa,Qn _,g2,g5,L0⟩
 case round=>
  clear L0;obtain⟨j,i0,J,rfl,b8,hm,j1,hk,hb,a8⟩:=hrel;obtain⟨i,b7,n,f,j3,P⟩:=a8.skip z0.o z1.o _ i0 rfl j1 hb;rw[hk]at n;clear hk hb a8 j1;have z2:Hid _:=f
  by_cases b9:j < U.length
  ·have y5:(j:Int) < (U.length:Int):=Oa
   obtain⟨b2,o2,a2,k,y,v,A,g3,p⟩:=P.resolve_left (fun e=>by
    rw[e,eS]at n;have:=congrArg List.length n;rw[List.length_drop]at this;simp only[aF,List.length_nil]at this;omega)
   have y6:U[j]?=some k/\aF 17 y=U.drop (j+1):=by
    rw[v]at n;have z9:k::aF 17 y=U.drop j:=by rw[<-n];exact(if_pos p).symm
    constructor
    ·have:=congrArg (fun l=>l[0]?) z9;simp only[List.getElem?_cons_zero,List.getElem?_drop,Nat.add_zero]at this;exact this.symm
    ·have:=congrArg List.tail z9;simpa[List.tail_drop]using this
   obtain⟨h9,h8⟩:=y6;obtain⟨g,b3,b,o,a,l,a1,a3,a4,u,q,Q,b5,g4,j2⟩:=f.rs.fns.get h9;subst g4;have y2:=eX Ot i _ z0.o;have E:=lT i _ z1.o;have y9:=aR4 i _ g9.o;have y7:=lO i _ g8.o;have N:=f.rest;rw[v]at y2 E y9 y7 N j3;obtain⟨j6,z5,_⟩:=aY Ot y2;obtain⟨V,x',y',z',p',q',e,Y,d,hq⟩:=oO z5 p;simp only[BT.node.injEq]at e;obtain⟨rfl,rfl,rfl,rfl,rfl⟩:=e;have a6:(ps (.node b o a l (.node a1 a3 a4 u q))).Nodup:=(dZ E).left;have u2:=dZ (dZ a6).right;have j4:=(aMV (H:=H) (O:=O) (X:=w.1.size) (it:=it) (D:=D) (M:=M) (m:=m) (U:=U) (szT q) q Ol y7.1.2.1.2.1 u2.right y9.mk.1.mk.2.1.mk.2.1).2.2.2.1 hq;have F:=kI b2 o2 a2 (.node b o a l (.node a1 a3 a4 u q)) y;rw[Oh,if_neg (by rw[j6];intro h;exact absurd h.2 Ob)]at F;have k:=kI b o a l (.node a1 a3 a4 u q);have e3:=kI a1 a3 a4 u q;have k0:=j4 J wr f.rs N.1.2.1.2.1 Oa;have j9:=lS U q J;have j8:Hid ((siR U q J).length+(ps (aL (i+1) (bCF T))).length<=1000000):=by rw[Hid,A];omega
   have k4:Hid (∀ w3,SiW H O w.1.size it D M m U (siR U q J) w3->IsT w3 (siT U q J)->Fr H (Pt q) wr w3->LpS H O w.1.size it D M m U (bCF T) [] B (i+1) (siR U q J) w3):=fun w3 k1 k2 k3=>by
    obtain⟨d1,d2⟩:=aK9 (U:=U) p Y V d a6 N.1 k3 k2;have st:=z2.o.step (w3:=w3) Ot z0.o z1.o v A (by rw[(xT p Y V d).1];exact k1) d1 d2;rw[(xT p Y V d).1]at st;exact st
   obtain⟨b1,b4,z6⟩:=hq.W Ox;obtain⟨_,_,_,_,k5,_,_⟩:=j2.cells;rw[z6]at k5 k0;have j7:Hid (aF 17 (aL (i+1) (bCF T))=U.drop (j+1)):=by rw[Hid,A];exact h8
   have g6:ao=some ⟨g,0,none⟩:=by
    rw[g7.o]at Q;simp only[Value.slice.injEq]at Q;exact Q.1
   subst g6;clear j4 v A f j9 j3 F k e3 N y7 y9 a6 u2 E y2 z5 V d hq Y h9 h8 n p P z6 j2 Q j6;go_wp2_with fail
   refine k0.mono ?_;rintro e W3 ⟨rfl,h3,i3,x3⟩;obtain⟨x,rfl⟩:∃ x,gk=x+1:=⟨gk - 1,Oa⟩
   have fin:∃ (j' K:Nat) (J:Sl),Qc ((j:Int)+1)= Qc j'/\j'<=U.length/\U.length<=j'+x/\K<=aO (bCF T)/\aF 17 (aL K (bCF T))=U.drop j'/\J.length+(ps (aL K (bCF T))).length<=1000000/\LpS H O w.1.size it D M m U (bCF T) [] B K J W3:=
    ⟨j+1,i+1,_,Od,Oa,Oa,Oa,j7.o,j8.o,k4.o W3 h3 i3 x3⟩
   clear k4 z2 h3 i3 x3 j8 j7;go_wp2;go_roundg x
   case rel=>exact fin
   case measure=>omega
  ·have y5: ¬(j:Int) < (U.length:Int):=Oa
   have j0:i=aO (bCF T):=by
    rcases P with h|⟨b2,o2,a2,k,y,v,A,g3,p⟩
    ·exact h
    ·exfalso;rw[v,List.drop_eq_nil_of_le Oa]at n;have:(if bN k=17 then k::aF 17 y else aF 17 y)=[]:=n;rw[if_pos p]at this;cases this
   have fin:aTJ H O it D M m U T w wr:=by
    subst j0;obtain⟨F,k⟩:=f.fin;have W:=f.rs;rw[F]at W;exact a7.o wr f.fr W k
   clear j0 f z2 a7 P n;go_wp2;go_end0
   exact⟨rfl,fin⟩
end
section
structure Wd(c:Cut):Prop where
 lt:∀ t∈c.words,0<=t.e/\t.e < c.start
 up:(c.words.map Tok.e).Pairwise (·< ·)
 f:∀ t∈c.words,t.f.size<=c.f.size
 vals:∀ t∈c.words,0<=t.a/\t.a<=999999999
theorem aCD(s:ByteArray)(a b:Nat):(s.extract a b).size<=s.size:=by
 rw[ByteArray.size_extract];omega
theorem aCC{c:Cut}{p:Nat}(h:bQ9 c p):(c.D p).words=c.words\/(c.mode≠0/\∃ k v t,(c.D p).words=c.words++[⟨k,c.start,t,v⟩]/\t.size<=c.f.size/\0<=v/\v<=999999999):=by
 unfold Cut.D
 by_cases b:c.mode=2
 ·rw[if_pos b];unfold Cut.named Cut.push;have:=c.fail_text 1 c.start
  split
  ·simp[*]
  ·split
   ·exact .r ⟨Oa,_,_,_,rfl,Qn _,Oa,Oa⟩
   grind[aCD]
 rw[if_neg b]
 by_cases a:c.mode=3
 ·rw[if_pos a];unfold Cut.number Cut.push;have:=c.fail_text 3 c.start;have e:=qZ _ (h.digits a)
  split
  ·simp[*]
  ·exact .r ⟨Oa,_,_,_,rfl,Qn _,e.1,Oa⟩
 rw[if_neg a]
 by_cases d:c.mode=4
 ·rw[if_pos d];unfold Cut.sign Cut.push;have:=c.fail_text 1 c.start
  split
  ·exact .r ⟨Oa,_,_,_,rfl,Qn _,Oa,Oa⟩
  simp[*]
 simp[*]
theorem aB7{c:Cut}{p:Nat}(f:bQ9 c p)(h:Wd c):(∀ t∈(c.D p).words,0<=t.e/\t.e < p)/\((c.D p).words.map Tok.e).Pairwise (·< ·)/\(∀ t∈(c.D p).words,t.f.size<=c.f.size/\0<=t.a/\t.a<=999999999)/\(c.D p).words.length<=p:=by
 have u:=f.lo;have s:=f.hi;have r:=f.count;rcases aCC f with e|⟨k,w,x,t,e,n,o,q⟩
 ·rw[e];exact⟨fun t d=>Oi (h.lt t d),h.up,fun t d=>⟨h.f t d,h.vals t d⟩,Oa⟩
 ·have v:=f.some_ k;rw[e];refine⟨fun t d=>?_,?_,fun t d=>?_,Qg⟩
  ·rcases List.mem_append.1 d with d|d
   ·have:=h.lt t d;omega
   grind
  ·rw[List.map_append];refine List.pairwise_append.2 ⟨h.up,Od,fun a j b g=>?_⟩;obtain⟨l,i,rfl⟩:=List.mem_map.1 j;simp only[List.map_cons,List.map_nil,List.mem_singleton]at g;subst g;exact(h.lt l i).2
  ·rcases List.mem_append.1 d with d|d
   ·exact⟨h.f t d,h.vals t d⟩
   grind
theorem aPS{c:Cut}{p:Nat}{r:Int}(a:bQ9 c p)(h:Wd c):Wd (c.step p r):=by
 unfold Cut.step
 split
 ·exact h
 ·obtain⟨b,d,e,_⟩:=(c.D p).begins_keeps p r;obtain⟨f,_⟩:=c.Z p;obtain⟨g,i,j,_⟩:=aB7 a h;refine⟨?_,?_,?_,?_⟩
  ·grind
  ·simp[*]
  ·grind
  grind
structure aRY(s:ByteArray)(l:List Tok):Prop where
 lt:∀ t∈l,0<=t.e/\t.e < s.size
 up:(l.map Tok.e).Pairwise (·< ·)
 f:∀ t∈l,t.f.size<=s.size
 vals:∀ t∈l,0<=t.a/\t.a<=999999999
 few:l.length<=s.size
theorem aSC(s:ByteArray):∀ (n:Nat) (c:Cut) (p:Nat),c.f=s->bQ9 c p->Wd c->s.size - p < n->(c.run n p).a=0->aRY s (c.run n p).words:=by
 intro n
 induction n with
 |zero=>omega
 |succ n ih=>
  intro c p e b h r a;unfold Cut.run at a ⊢;rw[e]at a ⊢
  by_cases d:p < s.size
  ·rw[if_pos d]at a ⊢
   by_cases q:(c.step p (Utf8.decode s p).1).a=0
   ·rw[Oh]at a ⊢;have t:=Lib.decode_width_pos s p d;obtain⟨l,o⟩:=b.step Qh Qh
    grind[aPS]
   grind
  ·rw[if_neg d];obtain⟨f,g,i,j⟩:=aB7 b h;have k:=b.le;rw[e]at k i;have:p=s.size:=Oa
   subst this;exact⟨f,g,Qg,Qg,j⟩
theorem aGP(s:ByteArray)(a:(dN s).a=0):aRY s (dN s).words:=
 aSC s _ _ 0 rfl (bQ9.start s) ⟨Od,.nil,Od,Od⟩ Oa a
def aW(s:ByteArray):List Tok:=(dN s).words++[⟨0,s.size,ByteArray.mk #[],0⟩]
theorem lI(s:ByteArray):cY (aW s):=by
 grind[cY,aW]
theorem mV{s:ByteArray}(b:(dN s).a=0)(c:s.size<=4000):eF (aW s):=by
 have h:=aGP s b;refine⟨fun t a=>?_,fun t a=>?_,?_⟩
 ·rcases List.mem_append.1 a with a|a
  ·exact Qm (h.f t a) c
  ·simp only[List.mem_singleton]at a;subst a;exact Qn _
 ·rcases List.mem_append.1 a with a|a
  ·exact h.vals t a
  grind
 ·have:=h.few
  grind[aW]
theorem aBN{s:ByteArray}(e:(dN s).a=0):((aW s).map Tok.e).Pairwise (·< ·):=by
 have h:=aGP s e;unfold aW;rw[List.map_append];refine List.pairwise_append.2 ⟨h.up,Od,fun a d b c=>?_⟩;obtain⟨t,f,rfl⟩:=List.mem_map.1 d;simp only[List.map_cons,List.map_nil,List.mem_singleton]at c;subst c;exact(h.lt t f).2
theorem aRN{T:List Tok}(v:(T.map Tok.e).Pairwise (·< ·)){l:List Int}(h:Sg T 0 T.length l):l.Nodup/\l.length<=T.length:=by
 obtain⟨_,g,rfl,d,q⟩:=h
 have key:∀ i j,i < j->j < T.length->(dD T i).e < (dD T j).e:=by
  grind[dD,Nat.lt_trans,List.pairwise_iff_getElem,List.length_map,List.getElem?_eq_getElem]
 constructor
 ·rw[List.Nodup,List.pairwise_map];refine d.imp_of_mem fun {a b} _ r p=>?_
  grind
 ·rw[List.length_map];have t:g.Nodup:=d.imp Oa;have u:g ⊆ List.range T.length:=Qg
  have s:∀ (l m:List Nat),l.Nodup->l ⊆ m->l.length<=m.length:=by
   intro l
   induction l with
   |nil=>simp
   |cons a l ih=>
    intro m k n;have o:a∈m:=Qg;have c:=List.nodup_cons.1 k;have:=ih (m.erase a) c.2 (fun x f=>(List.mem_erase_of_ne (fun e=>by subst e;exact c.1 f)).2 (n (by simp[f])))
    grind
  grind
theorem aQN:∀ t:Tr,eE t<=(ps t).length:=by
 intro t
 induction t with
 |nil=>trivial
 |node b o a l r ihl ihr=>
  rw[eD,kI]
  by_cases c:a.a=9
  ·rw[if_pos c,Oh,if_pos ⟨Oa,by rw[c];rfl⟩];omega
  grind
variable {F:cM} {its:List Tr}
def gJ:Tr->Nat
 | .nil=>0
 | .node _ _ _ l _=>aD l
def mI(t:Tr)(k:Nat):Option Nat:=((aF 17 (bCF t)).map gJ)[k]?
def oU(t:Tr):Nat:=(aF 16 (bCF t)).length
def aP3(par:Nat->Option Nat)(na:Nat)(e:Tr):Prop:=∃ b o a l x y z p q,e= .node b o a l (.node x y z p q)/\a.a=17/\z.a=18/\Vd par na 12 p/\Vd par na 12 q/\aD l<=4
def aTL(e:Tr):Prop:=∃ b o a l r,e= .node b o a l r/\a.a=16/\a.c < 6/\1<=a.g/\a.g<=64
theorem yY(k:Nat)(L:Tr):aF k L=(toL L).filter fun e=>bN e==k:=by
 induction L with
 |nil=>rfl
 |node b o a e r _ ih=>
  grind[bN,aF,toL]
theorem aJS(e:Tr)(n:Int):gJ (iX e n)=gJ e:=by cases e<;>rfl
theorem aEB:∀ (L:Tr) (Y R:Nat),Ws 18 L->(aF 17 (gaT L Y R)).map gJ=(aF 17 L).map gJ/\(aF 16 (gaT L Y R)).length=(aF 16 L).length:=by
 intro L
 induction L with
 |nil=>intro _ _ _;trivial
 |node b o a e r _ ih=>
  intro Y R f;obtain⟨_,d,c⟩:=aY Ot f;obtain⟨j,_⟩:=uR d;unfold gaT
  by_cases h:bN e=16
  ·rw[if_pos h];obtain⟨g,i⟩:=ih (Y+1) R c;constructor
   ·show(if bN (iX e Y)=17 then _ else _:List Tr).map gJ=(if bN e=17 then _ else _:List Tr).map gJ
    grind[jB]
   ·show(if bN (iX e Y)=16 then _ else _:List Tr).length=(if bN e=16 then _ else _:List Tr).length
    grind[jB,List.length_cons]
  ·rw[if_neg h];obtain⟨g,i⟩:=ih Y (R+1) c;constructor
   ·show(if bN (iX e R)=17 then _ else _:List Tr).map gJ=(if bN e=17 then _ else _:List Tr).map gJ
    grind[jB,aJS]
   ·show(if bN (iX e R)=16 then _ else _:List Tr).length=(if bN e=16 then _ else _:List Tr).length
    grind[jB]
theorem aTH:∀ (L:Tr) (Y R j:Nat) (e:Tr),Ws 18 L->(aF 16 (gaT L Y R))[j]?=some e->lH e=((Y+j:Nat):Int):=by
 intro L
 induction L with
 |nil=>intro Y R j e _ h;cases h
 |node b o a e0 r _ ih=>
  intro Y R j e f h;obtain⟨_,c,k⟩:=aY Ot f;obtain⟨i,g⟩:=uR c;unfold gaT at h
  by_cases d:bN e0=16
  ·rw[if_pos d]at h;have h:(if bN (iX e0 Y)=16 then iX e0 Y::aF 16 (gaT r (Y+1) R)else aF 16 (gaT r (Y+1) R))[j]?=some e:=h
   grind[jB,List.getElem?_cons_zero,Option.some.injEq,qP,List.getElem?_cons_succ]
  grind[bN,iX,aF,gaT,jB]
theorem tP{s:Rs}{i:Nat}{p:Int}(h:(s.S i p).a=0):s.S i p=s/\i < 4:=by
 grind[Rs.S,dX]
theorem aO0{s:Rs}{a:Nd}(h:(s.few a).a=0):s.few a=s:=by
 grind[Rs.few,dX]
theorem yA{s:Rs}{a:Nd}{i:Nat}(h:(s.R F a i).a=0):s.R F a i=s:=by
 grind[Rs.R,bCK,dX]
theorem aOY{s:Rs}{a:Nd}(h:(s.arr a).a=0):s.a=0/\a.c < 6/\1<=a.g/\a.g<=64:=by
 grind[Rs.arr,mH,Rs.six,dX]
theorem aMW{s:Rs}{x:ByteArray}{p:Int}(b:nZ s)(h:(s.param x p).a=0):nZ (s.param x p)/\(s.param x p).b.length=s.b.length+1/\s.a=0/\s.b.length < 4:=by
 have a:(s.K x p 4).a=0:=h
 grind[Rs.param,oJ,aE9]
theorem aQA:∀ (L:Tr) (s:Rs),nZ s->(jF L s).a=0->nZ (jF L s)/\(jF L s).b.length=s.b.length+aO L/\s.a=0/\(s.b.length<=4->s.b.length+aO L<=4):=by
 intro L
 induction L with
 |nil=>intro s c h;exact⟨c,rfl,h,fun h=>h⟩
 |node b o a e r _ ih=>
  intro s c h;have h:(jF r (s.param (eI e) (bEN e))).a=0:=h
  have f:∀ (L:Tr) (s:Rs),(jF L s).a=0->s.a=0:=by
   intro L
   induction L with
   |nil=>intro s h;exact h
   |node b o a e r _ ih=>
    intro s h;have:=ih _ h
    exact(show s.a=0 by
     have d:(s.K (eI e) (bEN e) 4).a=0:=this
     grind[oJ])
  grind[jF,aO,aMW]
theorem aS2{par:Nat->Option Nat}{l:Nat}(j:aFB F its par l):∀ (L:Tr) (i:Nat) (s:Rs),Ws 15 L->nZ s->(whR F its L i s).a=0->nZ (whR F its L i s)/\s.a=0/\Vd par l 12 (whT F its L i s):=by
 intro L
 induction L with
 |nil=>intro i s _ k h;trivial
 |node b o a e r _ ih=>
  intro i s C k h;obtain⟨R,z,v⟩:=aY Ov C
  have J:∀ (L:Tr) (i:Nat) (s:Rs),(whR F its L i s).a=0->s.a=0:=by
   intro L
   induction L with
   |nil=>intro i s h;exact h
   |node b o a e r _ ih=>
    intro i s h;have c:=jS _ _ (ih _ _ h)
    grind[tP,jS]
  have h:(whR F its r (i+1) (rsT F its (qJ e) ((rsT F its (lX e) s).S i (mF e)))).a=0:=h;have c:=J _ _ _ h;have f:=jS _ _ c;obtain⟨d,_⟩:=tP f;rw[d]at h c f;cases e with
  |nil=>grind[Ws,bK]
  |node b2 o2 a2 x y=>
   obtain⟨_,S,T,g,E,I⟩:=z.parts
   have A:a2.a=7:=by
    grind[sig]
   rw[A]at g;cases g;obtain⟨n,V,K⟩:=aFG j x 21 s E f k;obtain⟨p,W,N⟩:=aFG j y 21 _ I c n;obtain⟨P,_,Q⟩:=ih (i+1) _ v p h
   have w:whT F its (.node b o a (.node b2 o2 a2 x y) r) i s= .node b o a (.node b2 o2 a2 (reT F its x s) (reT F its y (rsT F its x s))) (whT F its r (i+1) (rsT F its y (rsT F its x s))):=by
    show BT.node b o a (bCU _ _ (reT F its y ((rsT F its x s).S i a2.e))) (whT F its r (i+1) (rsT F its y ((rsT F its x s).S i a2.e)))=_;rw[show(rsT F its x s).S i a2.e=rsT F its x s from d];rfl
   have u:whR F its (.node b o a (.node b2 o2 a2 x y) r) i s=whR F its r (i+1) (rsT F its y (rsT F its x s)):=by
    show whR F its r (i+1) (rsT F its y ((rsT F its x s).S i a2.e))=_;rw[show(rsT F its x s).S i a2.e=rsT F its x s from d]
   rw[w,u];have q:=n.few;have t:=p.few;refine⟨P,Qg,⟨K.mono q,N.mono t,Oa,Oa,Oa⟩,Q,Oa,Oa,Oa⟩
theorem aLE{par:Nat->Option Nat}{c Z s:Nat}{p L:Tr}(d:s=3\/s=4\/s=5\/s=6\/s=8)(e:Ws s p)(h:Vd par c Z L):Vd par c Z (iS p L):=by
 rcases e.lst d with rfl|⟨b,o,a,l,rfl,f,_⟩
 ·trivial
 ·exact⟨h,trivial,Oa,Oa,Oa⟩
theorem yU{s:Nat}{p L:Tr}(c:s=3\/s=4\/s=5\/s=6\/s=8)(d:Ws s p)(h:aO L=aO (bCF p)):aD (iS p L)=aD p:=by
 rcases d.lst c with rfl|⟨b,o,a,l,rfl,e,_⟩
 ·rfl
 ·exact h
theorem aSS{par:Nat->Option Nat}{u:Nat}(j:aFB F its par u){e:Tr}{i:Nat}{s:Rs}(n:Ws 7 e)(h:(itR F its e i s).a=0):s.a=0/\(bN e=17->aP3 par u (itT F its e i s))/\(bN e=16->aTL (itT F its e i s)):=by
 obtain⟨b,o,a,l,r,rfl,c⟩:=iB n;rcases c with c|c
 ·have g:itR F its (.node b o a l r) i s=(s.R F a i).arr a:=if_pos c;rw[g]at h;obtain⟨f,C,E,I⟩:=aOY h;rw[yA f]at f;refine⟨f,fun e=>by have:a.a=17:=e;omega,fun _=>?_⟩;rw[show itT F its (.node b o a l r) i s= .node b o a l r from if_pos c];exact⟨b,o,a,l,r,rfl,c,C,E,I⟩
 ·obtain⟨N,x,y,z,p,q,rfl,Q,k,P⟩:=oO n c;have g:itR F its (.node b o a l (.node x y z p q)) i s=fnR F its (.node b o a l (.node x y z p q)) (s.R F a i):=Oh;rw[g]at h;have v:itT F its (.node b o a l (.node x y z p q)) i s=fnT F its (.node b o a l (.node x y z p q)) (s.R F a i):=Oh;rw[v];generalize J:s.R F a i=d at h ⊢;have h:(rsT F its q (fnS F its a l p d).2).a=0:=h;have R:=jS _ _ h;have t:(whR F its (bCF p) 0 (jF (bCF l) (d.few a).clear)).a=0:=R;have Z:nZ (d.few a).clear:=⟨(fun x i h=>by cases h),by show 0<=12;omega⟩
  have A:∀ (L:Tr) (i:Nat) (s:Rs),(whR F its L i s).a=0->s.a=0:=by
   intro L
   induction L with
   |nil=>intro i s h;exact h
   |node b o a e r _ ih=>
    intro i s h;have f:=jS _ _ (ih _ _ h)
    grind[tP,jS]
  obtain⟨S,p2,T,V⟩:=aQA (bCF l) _ Z (A _ _ _ t);obtain⟨w1,_,w3⟩:=aS2 j (bCF p) 0 _ (k.elems Oa) S t;obtain⟨W,q2,Y⟩:=aFG j q 4 _ P h w1;have c0:(d.few a).a=0:=T;rw[aO0 c0]at c0;rw[<-J]at c0;have c1:=yA c0;rw[c1]at c0;refine⟨c0,fun _=>?_,fun e=>by have:a.a=16:=e;omega⟩;have w:=W.few;refine⟨b,o,_,_,x,y,z,_,_,rfl,c,Q,aLE Oa k w3,Y.mono w,?_⟩;have K:=bCQ (bCF l) (d.few a).clear;rw[yU Ou N K.1,bLA];have:=V (by show 0<=4;omega);omega
theorem aQQ{par:Nat->Option Nat}{d:Nat}(k:aFB F c par d):∀ (L:Tr) (i:Nat) (s:Rs),Ws 18 L->(aAC F c L i s).a=0->s.a=0/\(∀ e∈aF 17 (hY F c L i s),aP3 par d e)/\(∀ e∈aF 16 (hY F c L i s),aTL e):=by
 intro L
 induction L with
 |nil=>intro i s _ h;exact⟨h,fun e h=>(by cases h),fun e h=>(by cases h)⟩
 |node b o a e0 r _ ih=>
  intro i s l h;obtain⟨_,j,f⟩:=aY Ot l;obtain⟨g,n,p⟩:=ih _ _ f h;obtain⟨q,t,u⟩:=aSS k j g
  grind[bN,itT,aF,hY,itR,uS]
end
section
variable {F:cM} {its:List Tr} {H O:Nat}
theorem aSQ{t:Tr}(p:Ws 8 t):aFB (dB t) (fC t) (mI t) (oU t):=by
 have f:=p.elems Oa;obtain⟨n,q⟩:=aEB (bCF t) 0 0 f
 have i:∀ x e,fP (dB t) (fC t) x=some e->e∈toL (gaT (bCF t) 0 0):=by
  intro x e h;obtain⟨s,_,hi⟩:=Option.bind_eq_some_iff.1 h;exact Qr hi
 constructor
 ·intro x e h;unfold fY at h;cases hm:fP (dB t) (fC t) x with
  |none=>grind
  |some e0=>
   rw[hm]at h;cases e0 with
   |nil=>cases h
   |node b o a l r=>
    dsimp only at h
    by_cases c:a.a=16
    ·rw[if_pos c]at h;cases h;obtain⟨j,g,d⟩:=aII (bCF t) 0 0 _ f (i _ _ hm) c
     grind[aI9,toL,gaT,bCF,aF,oU,yY]
    grind
 ·intro x b o a l r h;unfold eK at h;cases hm:fP (dB t) (fC t) x with
  |none=>grind
  |some e0=>
   rw[hm]at h;cases e0 with
   |nil=>cases h
   |node b' o' a' l' r'=>
    dsimp only at h
    by_cases c:a'.a=17
    ·rw[if_pos c]at h;cases h;obtain⟨j,g,d⟩:=aLB (bCF t) 0 0 _ f (i _ _ hm) c;have k:aU2 (toL (gaT (bCF t) 0 0))=aF 17 (gaT (bCF t) 0 0):=(yY 17 _).symm;have d:a.c=((0+j:Nat):Int):=d;rw[d];refine⟨Oa,?_⟩;rw[show(((0+j:Nat):Int)).toNat=j by omega];unfold mI;rw[<-n,<-k,List.getElem?_map,g];rfl
    grind
theorem jJ{t:Tr}(c:Ws 8 t):bCF (dY t)=hY (dB t) (fC t) (gaT (bCF t) 0 0) 0 rs0:=by
 rcases c.lst (by omega)with rfl|⟨b,o,a,l,rfl,ht,_⟩
 ·rfl
 ·rfl
theorem aJC(e:Tr)(n:Int):cB (iX e n)=cB e:=by cases e<;>rfl
theorem aHL(k:Nat):∀ (L:Tr) (Y R:Nat),(aF k (gaT L Y R)).map cB=(aF k L).map cB:=by
 intro L
 induction L with
 |nil=>intro _ _;rfl
 |node b o a e r _ ih=>
  intro Y R
  have key:∀ (n:Int) (X:List Tr),X.map cB=(aF k r).map cB->(if bN (iX e n)=k then iX e n::X else X:List Tr).map cB=(if bN e=k then e::aF k r else aF k r:List Tr).map cB:=by
   grind[jB,aJC]
  unfold gaT
  split
  ·exact key _ _ (ih _ _)
  ·exact key _ _ (ih _ _)
theorem aNQ{e:Tr}(i:Nat)(s:Rs)(h:Ws 7 e):bN (itT F its e i s)=bN e/\cB (itT F its e i s)=cB e/\gJ (itT F its e i s)=gJ e/\(bN e=16->itT F its e i s=e):=by
 obtain⟨b,o,a,l,r,rfl,c⟩:=iB h;rcases c with c|c
 ·grind[itT]
 ·obtain⟨f,x,y,z,p,q,rfl,k,g,j⟩:=oO h c;have d:itT F its (.node b o a l (.node x y z p q)) i s=fnT F its (.node b o a l (.node x y z p q)) (s.R F a i):=Oh;rw[d];exact⟨rfl,rfl,yU Ou f (bCQ (bCF l) _).1,fun e=>by have:a.a=16:=e;omega⟩
theorem wF:∀ (L:Tr) (i:Nat) (s:Rs),Ws 18 L->(aF 17 (hY F its L i s)).map gJ=(aF 17 L).map gJ/\aF 16 (hY F its L i s)=aF 16 L/\(aF 17 (hY F its L i s)).map cB=(aF 17 L).map cB:=by
 intro L
 induction L with
 |nil=>intro _ _ _;trivial
 |node b o a e r _ ih=>
  intro i s c;obtain⟨_,d,f⟩:=aY Ot c
  grind[itR,aF,hY,bN,itT,aNQ]
structure wR(t T:Tr)(m:Int):Prop where
 fns:∀ e∈aF 17 (bCF T),aP3 (mI t) (oU t) e
 par:(aF 17 (bCF T)).map gJ=(aF 17 (bCF t)).map gJ
 arrs:∀ e∈aF 16 (bCF T),aTL e
 na:(aF 16 (bCF T)).length=oU t
 few:oU t<=6
 main:∃ j:Nat,m=j/\j < (aF 17 (bCF T)).length
theorem aHM{t:Tr}{n:Int}(h:Ws 8 t)(g:(fO t n).a=0):wR t (dY t) (qV t):=by
 have f:=h.elems Oa;have j:=aSQ h
 have i:(eK (dB t) (fC t) rF).isSome:=by
  grind[fO,eK,dB,fC,rF,dX]
 have v:(aAC (dB t) (fC t) (gaT (bCF t) 0 0) 0 rs0).a=0:=by
  unfold fO at g;rw[if_pos i]at g;exact g
 have k:Ws 18 (gaT (bCF t) 0 0):=kY f;obtain⟨_,J,y⟩:=aQQ j _ _ _ k v;obtain⟨z,c⟩:=aEB (bCF t) 0 0 f;obtain⟨I,p,_⟩:=wF (F:=dB t) (its:=fC t) (gaT (bCF t) 0 0) 0 rs0 k;refine⟨by grind[jJ],by grind[jJ],by grind[jJ],by rw[jJ h,p,c];rfl,?_,?_⟩
 ·rw[<-p]at c;have e0:oU t=(aF 16 (hY (dB t) (fC t) (gaT (bCF t) 0 0) 0 rs0)).length:=c.symm;rcases Nat.eq_zero_or_pos (oU t)with h0|h0
  ·omega
  ·have u:oU t - 1 < (aF 16 (hY (dB t) (fC t) (gaT (bCF t) 0 0) 0 rs0)).length:=Oa
   obtain⟨b,o,a,l,r,q,_,E,_⟩:=y _ (List.getElem_mem u)
   have s:(aF 16 (gaT (bCF t) 0 0))[oU t - 1]?=some (aF 16 (hY (dB t) (fC t) (gaT (bCF t) 0 0) 0 rs0))[oU t - 1]:=by
    simp[*]
   have d:=aTH (bCF t) 0 0 _ _ f s;rw[q]at d;have d:a.c=((0+(oU t - 1):Nat):Int):=d;omega
 ·obtain⟨e,x⟩:=Option.isSome_iff_exists.1 i;have w:qV t=lH e:=by grind[qV]
  cases e with
  |nil=>
   grind[eK,fP,dB,fC,rF]
  |node b o a l r=>
   obtain⟨A,C⟩:=j.fn _ _ _ _ _ _ x;refine⟨a.c.toNat,by rw[w];show a.c=_;omega,?_⟩
   grind[aF,bCF,gJ,mI,Oa,List.getElem?_eq_none,jJ,List.length_map]
theorem aOC{n:Nat}:∀ (t:Tr) (s:Nat),Ws s t->wV s=true->Cv n t:=by
 intro t
 induction t with
 |nil=>intro _ _ _;trivial
 |node b o a l r ihl ihr=>
  intro s i h;obtain⟨_,x,y,c,d,g⟩:=i.parts;obtain⟨f,j,k⟩:=yC c h;exact⟨ihl x d j,ihr y g k,fun e=>absurd e f.2.1⟩
theorem aRW{par:Nat->Option Nat}{d Z n:Nat}(c:∀ k v,par k=some v->k < n):∀ {t:Tr},Vd par d Z t->Cv n t:=by
 intro t
 induction t with
 |nil=>intro _;trivial
 |node b o a l r ihl ihr=>
  intro⟨h1,h2,_,_,h5⟩;exact⟨ihl h1,ihr h2,fun e=>by have:=h5 e;have:=c _ _ this.2;omega⟩
theorem aSI{t:Tr}{k v:Nat}(h:mI t k=some v):k < (aF 17 (bCF t)).length:=by
 grind[aF,bCF,mI]
theorem wR.len{t T:Tr}{m:Int}(h:wR t T m):(aF 17 (bCF T)).length=(aF 17 (bCF t)).length:=by
 have:=congrArg List.length h.par
 grind
theorem wR.cv{t T:Tr}{m:Int}(h:wR t T m)(f:Ws 8 T):Cv (aF 17 (bCF T)).length T:=by
 have A:=f.elems Oa
 have key:∀ L:Tr,Ws 18 L->(∀ e∈aF 17 L,aP3 (mI t) (oU t) e)->Cv (aF 17 (bCF T)).length L:=by
  intro L
  induction L with
  |nil=>intro _ _;trivial
  |node b o a e r _ ih=>
   intro f c;obtain⟨P,g,R⟩:=aY Ot f;have c:∀ w∈(if bN e=17 then e::aF 17 r else aF 17 r),aP3 (mI t) (oU t) w:=c;obtain⟨n,s,d,l,u,rfl,I⟩:=iB g
   by_cases i:d.a=17
   ·rw[if_pos (show bN (.node n s d l u)=17 from i)]at c;refine⟨?_,Qg,Oa⟩;obtain⟨_,_,_,S,J,K,Y,V,W,e,N,Q,x,y,_⟩:=c _ (Qs ..);simp only[BT.node.injEq]at e;obtain⟨rfl,rfl,rfl,rfl,rfl⟩:=e;obtain⟨j,_,_,_,_,_,e,_⟩:=oO g i;have q:∀ k v,mI t k=some v->k < (aF 17 (bCF T)).length:=fun k v C=>by rw[h.len];exact aSI C
    exact⟨aOC l 6 j rfl,⟨aRW q x,aRW q y,fun e=>Oa⟩,Oa⟩
   ·rw[if_neg (show ¬bN (.node n s d l u)=17 from i)]at c;refine⟨?_,Qg,Oa⟩;obtain⟨_,J,K,p,j,E⟩:=g.parts;have z:d.a=16:=Oa;rw[z]at p;cases p;obtain rfl:=j.nil_of;obtain rfl:=E.nil_of;exact⟨trivial,trivial,Oa⟩
 have:=key _ A h.fns;rcases f.lst (by omega)with rfl|⟨b,o,a,l,rfl,I,_⟩
 ·trivial
 ·exact⟨this,trivial,Oa⟩
end
section
variable {F:cM} {its:List Tr}
theorem gT(t:Tr):bCF (er t)=er (bCF t):=by cases t<;>rfl
theorem aBU(e:Tr)(n:Int):iX (er e) n=er (iX e n):=by cases e<;>rfl
theorem aLG(e:Tr):bN (er e)=bN e:=by cases e<;>rfl
theorem aC0(e:Tr):eI (er e)=eI e:=by cases e<;>rfl
theorem aHV(e:Tr):bEN (er e)=bEN e:=by cases e<;>rfl
theorem aMT(e:Tr):mF (er e)=mF e:=by cases e<;>rfl
theorem aCW(e:Tr):lH (er e)=lH e:=by cases e<;>rfl
theorem aDM(t:Tr):lX (er t)=er (lX t):=by cases t<;>rfl
theorem aDL(t:Tr):qJ (er t)=er (qJ t):=by cases t<;>rfl
theorem aGD:∀ (L:Tr) (Y R:Nat),gaT (er L) Y R=er (gaT L Y R):=by
 intro L
 induction L with
 |nil=>intro _ _;rfl
 |node b o a e r _ ih=>
  intro Y R;show(if bN (er e)=16 then _ else _)=er (if bN e=16 then _ else _);rw[aLG,aBU,aBU,ih,ih]
  split<;>rfl
theorem aSX:∀ (L:Tr) (i:Nat) (F:cM),gaF (er L) i F=gaF L i F:=by
 intro L
 induction L with
 |nil=>intro _ _;rfl
 |node b o a e r _ ih=>
  grind[gaF,er,bCK,eI,put,aC0]
theorem aS6(L:Tr):toL (er L)=(toL L).map er:=by
 induction L with
 |nil=>rfl
 |node b o a e r _ ih=>grind[er,toL]
theorem uP(k:Nat)(L:Tr):aF k (er L)=(aF k L).map er:=by
 induction L with
 |nil=>rfl
 |node b o a e r _ ih=>
  show(if bN (er e)=k then er e::aF k (er r)else aF k (er r))=(if bN e=k then e::aF k r else aF k r:List Tr).map er
  grind[aLG]
theorem aE6(x:ByteArray):fP F (its.map er) x=(fP F its x).map er:=by
 unfold fP;cases bCK x F with
 |none=>rfl
 |some i=>simp
theorem aA3(x:ByteArray):fY F (its.map er) x=(fY F its x).map er:=by
 unfold fY;rw[aE6];cases fP F its x with
 |none=>rfl
 |some e=>
  cases e with
  |nil=>rfl
  |node b o a l r=>
   grind[er]
theorem rZ(x:ByteArray):eK F (its.map er) x=(eK F its x).map er:=by
 unfold eK;rw[aE6];cases fP F its x with
 |none=>rfl
 |some e=>
  cases e with
  |nil=>rfl
  |node b o a l r=>
   grind[er]
theorem aF1(s:Rs)(x:ByteArray)(p:Int)(n:Nat):s.O F (its.map er) x p n=s.O F its x p n:=by
 grind[Rs.O,eK,aD,er,rZ,bQW]
theorem aCO(s:Rs)(x:ByteArray)(p:Int):s.P F (its.map er) x p=s.P F its x p:=by
 grind[Rs.P,fY,aA3]
theorem aMN(a:Nd)(n:Nat)(s:Rs):rs1 F (its.map er) a n s=rs1 F its a n s:=by unfold rs1;rw[aCO,aF1]
theorem pY:∀ (t:Tr) (s:Rs),rsT F (its.map er) t s=rsT F its t s:=by
 intro t
 induction t with
 |nil=>intro s;rfl
 |node b o a l r ihl ihr=>grind[rsT,aMN]
theorem aQB:∀ (L:Tr) (s:Rs),jF (er L) s=jF L s:=by
 intro L
 induction L with
 |nil=>intro _;rfl
 |node b o a e r _ ih=>grind[jF,er,eI,bEN,aC0,aHV]
theorem aS3:∀ (L:Tr) (i:Nat) (s:Rs),whR F (its.map er) (er L) i s=whR F its L i s:=by
 intro L
 induction L with
 |nil=>intro _ _;rfl
 |node b o a e r _ ih=>
  intro i s;show whR F (its.map er) (er r) (i+1) (rsT F (its.map er) (qJ (er e)) ((rsT F (its.map er) (lX (er e)) s).S i (mF (er e))))=_;rw[ih,aDM,aDL,pY,pY,tE,tE,aMT];rfl
theorem aNY(a:Nd)(l p:Tr)(s:Rs):fnS F (its.map er) a (er l) (er p) s=fnS F its a l p s:=by
 grind[fnS,gT,aQB,aS3]
theorem aNR(e:Tr)(i:Nat)(s:Rs):itR F (its.map er) (er e) i s=itR F its e i s:=by
 cases e with
 |nil=>rfl
 |node b o a l r=>
  show(if a.a=16 then(s.R F a i).arr a else fnR F (its.map er) (.node 0 0 a (er l) (er r)) (s.R F a i))=(if a.a=16 then(s.R F a i).arr a else fnR F its (.node b o a l r) (s.R F a i))
  congr 1
  cases r with
  |nil=>rfl
  |node x y z p q=>
   show rsT F (its.map er) (er q) (fnS F (its.map er) a (er l) (er p) _).2=rsT F its q (fnS F its a l p _).2;rw[aNY,pY,tE]
theorem aQR:∀ (L:Tr) (i:Nat) (s:Rs),aAC F (its.map er) (er L) i s=aAC F its L i s:=by
 intro L
 induction L with
 |nil=>intro _ _;rfl
 |node b o a e r _ ih=>grind[aAC,er,itR,aNR]
theorem uQ(t:Tr):fC (er t)=(fC t).map er:=by unfold fC;rw[gT,aGD,aS6]
theorem qG(t:Tr):dB (er t)=dB t:=by unfold dB;rw[gT,aSX]
theorem aQ6(t:Tr):aFV (er t)=aFV t:=by unfold aFV;rw[qG,uQ,gT,aGD,aQR]
theorem aHI(t:Tr)(n:Int):fO (er t) n=fO t n:=by
 unfold fO
 grind[eK,dB,fC,rF,aQ6,qG,uQ,rZ]
theorem aQ5(t:Tr):qV (er t)=qV t:=by
 unfold qV
 grind[eK,dB,fC,rF,qG,uQ,rZ,aCW]
theorem aHW(e:Tr):gJ (er e)=gJ e:=by
 cases e with
 |nil=>rfl
 |node b o a l r=>exact bQW l
end
section
variable {F:cM} {its:List Tr} {H O:Nat}
theorem aEI:∀ (t C:Tr),Sh t C->aUI H t->aUI H C:=by
 intro t
 induction t with
 |nil=>intro C h _;cases C with
  |nil=>trivial
  |node=>trivial
 |node b o a l r ihl ihr=>
  intro C h c;cases C with
  |nil=>trivial
  |node b' o' a' l' r'=>
   obtain⟨rfl,_,g,_,_,_,_,_,_,_,d,e⟩:=h;exact⟨ihl _ d c.1,ihr _ e c.2.1,fun f=>c.2.2 Qg⟩
theorem aGF{e:Tr}(h:aUI H e)(n:Int):aUI H (iX e n):=by
 cases e with
 |nil=>trivial
 |node b o a l r=>assumption
theorem aGG:∀ (L:Tr) (s:Rs),aUI H L->aUI H (lE L s):=by
 intro L
 induction L with
 |nil=>intro _ _;trivial
 |node b o a e r _ ih=>intro s h;exact⟨aGF h.1 _,ih _ h.2.1,h.2.2⟩
theorem rG{t L:Tr}(h:aUI H t)(c:aUI H L):aUI H (iS t L):=by
 cases t with
 |nil=>trivial
 |node b o a l r=>exact⟨c,h.2.1,h.2.2⟩
theorem aKA{e:Tr}(i:Nat)(s:Rs)(h:aUI H e):aUI H (itT F its e i s):=by
 cases e with
 |nil=>trivial
 |node b o a l r=>
  show aUI H (if a.a=16 then BT.node b o a l r else fnT F its (.node b o a l r) (s.R F a i))
  split
  ·exact h
  ·cases r with
   |nil=>exact h
   |node x y z p q=>
    exact⟨rG h.1 (aGG _ _ (jI h.1)),⟨rG h.2.1.1 (aEI _ _ (bCS _ _ _) (jI h.2.1.1)),aEI _ _ (dJ _ _ _ _) h.2.1.2.1,h.2.1.2.2⟩,h.2.2⟩
theorem aGH:∀ (L:Tr) (i:Nat) (s:Rs),aUI H L->aUI H (hY F its L i s):=by
 intro L
 induction L with
 |nil=>intro _ _ _;trivial
 |node b o a e r _ ih=>intro i s h;exact⟨aKA i s h.1,ih _ _ h.2.1,h.2.2⟩
theorem lM{t:Tr}(c:Ws 8 t):Ws 8 (dY t)/\ps (dY t)=ps t/\(∀ H,aUI H t->aUI H (dY t))/\bCH (dY t)=bCH t:=by
 have d:=c.elems Oa;have k:Ws 18 (gaT (bCF t) 0 0):=kY d;have f:=bCV (bCF t) 0 0 d;obtain⟨h,i,j,_,_⟩:=qF (F:=dB t) (its:=fC t) (gaT (bCF t) 0 0) 0 rs0 k;have g:aO (hY (dB t) (fC t) (gaT (bCF t) 0 0) 0 rs0)=aO (bCF t):=j.t f.lenL;refine⟨uB Ot c h g,yO Oa c (i.t f.ps),fun H e=>rG e (aGH _ _ _ (aB5 _ _ _ (jI e))),?_⟩;rcases c.lst (by omega)with rfl|⟨b,o,a,l,rfl,ht,_⟩
 ·rfl
 ·show(if a.a=20 then _ else _)=(if a.a=20 then _ else _);rw[if_pos ht,if_pos ht]
  congr 1
theorem aJB{t:Tr}(a:Ws 8 t):nH 17 (bCF t)=(aF 17 (bCF (dY t))).map cB:=by
 have b:=a.elems Oa
 grind[jJ,wF,kY,aHL,bSH]
theorem aDT{w:World}{b n:Nat}{e:TypeId}{v:Value}{a:List Value}(h:w.ownsRow b e 1 v n a):n=a.length:=by have:=h.1;omega
theorem IsT.b{w w':World}(c:∀ k,k < w.1.size->w'.1[k]?=w.1[k]?):∀ {t:Tr},IsT w t->IsT w' t:=by
 intro t
 induction t with
 |nil=>intro _;trivial
 |node b o a l r ihl ihr=>
  intro h;refine⟨ihl h.1,ihr h.2.1,?_⟩;have d:=h.2.2;unfold Own at d ⊢
  have key:∀ {n:Nat},dH n w b a l r->dH n w' b a l r:=by
   intro n h
   match n,h with
   |0,h|1,h|2,h|3,h|4,h|5,h|6,h|7,h|8,h|9,h|10,h|11,h|12,h|13,h|14,h|16,h|17,h=>exact At.same h (c _ (At.lt h))
   |20,h=>exact⟨h.1,At.same h.2 (c _ (At.lt h.2))⟩
   |15,_|18,_|19,_=>trivial
   |n+21,_=>trivial
  simp[*]
end
end Go.Proofs.YtikffmloeifkpaaGreatDoor
