/- Contracts. -/
import Derived.Test.YtikffmloeifkpaaGreatDoorQ19
set_option maxHeartbeats 8000000
set_option maxRecDepth 100000
namespace Go.Proofs.YtikffmloeifkpaaGreatDoor
section
open Go.RowKit Go.Lib Go.Deep Go.ChangeMaps Go.MapKept
variable {F:cM} {its:List Tr} {H pb:Nat}
theorem aSQ{t:Tr}(hw:Ws 8 t):aFB (dB t) (fC t) (mI t) (oU t):=by
 have hL:=hw.elems Ot;obtain⟨g1,g2⟩:=aEB (bCF t) 0 0 hL
 have mem:∀ x e,fP (dB t) (fC t) x=some e->e∈toL (gaT (bCF t) 0 0):=by
  intro x e h;obtain⟨i,_,hi⟩:=Option.bind_eq_some_iff.1 h;exact Qi hi
 constructor
 ·intro x e h;unfold fY at h;cases hm:fP (dB t) (fC t) x with
  |none=>rw[hm]at h;cases h
  |some e0=>
   rw[hm]at h;cases e0 with
   |nil=>cases h
   |node b o a l r=>
    dsimp only at h
    by_cases ht:a.tag=16
    ·rw[if_pos ht]at h;cases h;obtain⟨j,h1,h2⟩:=aII (bCF t) 0 0 _ hL (mem _ _ hm) ht
     have hj:j < (aI9 (toL (gaT (bCF t) 0 0))).length:=by
      rcases Qk j (aI9 (toL (gaT (bCF t) 0 0))).length with h|h
      ·exact h
      ·rw[List.getElem?_eq_none h]at h1;cases h1
     have e1:aI9 (toL (gaT (bCF t) 0 0))=aF 16 (gaT (bCF t) 0 0):=(yY 16 _).symm;rw[e1,g2]at hj;rw[h2];have:oU t=(aF 16 (bCF t)).length:=rfl;omega
    ·rw[if_neg ht]at h;cases h
 ·intro x b o a l r h;unfold eK at h;cases hm:fP (dB t) (fC t) x with
  |none=>rw[hm]at h;cases h
  |some e0=>
   rw[hm]at h;cases e0 with
   |nil=>cases h
   |node b' o' a' l' r'=>
    dsimp only at h
    by_cases ht:a'.tag=17
    ·rw[if_pos ht]at h;cases h;obtain⟨j,h1,h2⟩:=aLB (bCF t) 0 0 _ hL (mem _ _ hm) ht;have e1:aU2 (toL (gaT (bCF t) 0 0))=aF 17 (gaT (bCF t) 0 0):=(yY 17 _).symm;have h2:a.which=((0+j:Nat):Int):=h2;rw[h2];refine⟨Oa,?_⟩;rw[show(((0+j:Nat):Int)).toNat=j by omega];unfold mI;rw[<-g1,<-e1,List.getElem?_map,h1];rfl
    ·rw[if_neg ht]at h;cases h
theorem jJ{t:Tr}(hw:Ws 8 t):bCF (dY t)=hY (dB t) (fC t) (gaT (bCF t) 0 0) 0 rs0:=by
 rcases hw.lst (.inr (.inr (.inr Oy)))with rfl|⟨b,o,a,l,rfl,ht,_⟩
 ·rfl
 ·rfl
theorem aJC(e:Tr)(n:Int):cB (iX e n)=cB e:=by cases e<;>rfl
theorem aHL(k:Nat):∀ (L:Tr) (nA nF:Nat),(aF k (gaT L nA nF)).map cB=(aF k L).map cB:=by
 intro L
 induction L with
 |nil=>intro _ _;rfl
 |node b o a e r _ ih=>
  intro nA nF
  have key:∀ (n:Int) (X:List Tr),X.map cB=(aF k r).map cB->(if bN (iX e n)=k then iX e n::X else X:List Tr).map cB=(if bN e=k then e::aF k r else aF k r:List Tr).map cB:=by
   intro n X hX;rw[jB]
   split
   ·rw[List.map_cons,List.map_cons,aJC,hX]
   ·exact hX
  unfold gaT
  split
  ·exact key _ _ (ih _ _)
  ·exact key _ _ (ih _ _)
theorem aNQ{e:Tr}(i:Nat)(s:Rs)(h:Ws 7 e):bN (itT F its e i s)=bN e/\cB (itT F its e i s)=cB e/\gJ (itT F its e i s)=gJ e/\(bN e=16->itT F its e i s=e):=by
 obtain⟨b,o,a,l,r,rfl,ht⟩:=iB h;rcases ht with ht|ht
 ·have e1:itT F its (.node b o a l r) i s= .node b o a l r:=if_pos ht;rw[e1];exact⟨rfl,rfl,rfl,fun _=>rfl⟩
 ·obtain⟨hl,x,y,z,p,q,rfl,hz,hp,hq⟩:=oO h ht;have e2:itT F its (.node b o a l (.node x y z p q)) i s=fnT F its (.node b o a l (.node x y z p q)) (s.twice F a i):=Oh;rw[e2];exact⟨rfl,rfl,yU Ou hl (bCQ (bCF l) _).1,fun e=>by have:a.tag=16:=e;omega⟩
theorem wF:∀ (L:Tr) (i:Nat) (s:Rs),Ws 18 L->(aF 17 (hY F its L i s)).map gJ=(aF 17 L).map gJ/\aF 16 (hY F its L i s)=aF 16 L/\(aF 17 (hY F its L i s)).map cB=(aF 17 L).map cB:=by
 intro L
 induction L with
 |nil=>intro _ _ _;exact⟨rfl,rfl,rfl⟩
 |node b o a e r _ ih=>
  intro i s hw;obtain⟨_,h5,h0⟩:=aY Ot hw;obtain⟨h1,h2,h3,h4⟩:=aNQ (F:=F) (its:=its) i s h5;obtain⟨i1,i2,i3⟩:=ih (i+1) (itR F its e i s) h0
  have key:∀ k,aF k (hY F its (.node b o a e r) i s)=if bN e=k then itT F its e i s::aF k (hY F its r (i+1) (itR F its e i s))else aF k (hY F its r (i+1) (itR F its e i s)):=by
   intro k;show(if bN (itT F its e i s)=k then _ else _)=_;rw[h1]
  have key2:∀ k,aF k (.node b o a e r)=if bN e=k then e::aF k r else aF k r:=fun k=>rfl
  rw[key,key,key2,key2];refine⟨?_,?_,?_⟩
  ·split
   ·rw[List.map_cons,List.map_cons,h3,i1]
   ·exact i1
  ·split
   ·rename_i h;rw[h4 h,i2]
   ·exact i2
  ·split
   ·rw[List.map_cons,List.map_cons,h2,i3]
   ·exact i3
structure wR(t T:Tr)(m:Int):Prop where
 fns:∀ e∈aF 17 (bCF T),aP3 (mI t) (oU t) e
 par:(aF 17 (bCF T)).map gJ=(aF 17 (bCF t)).map gJ
 arrs:∀ e∈aF 16 (bCF T),aTL e
 na:(aF 16 (bCF T)).length=oU t
 few:oU t<=6
 main:∃ j:Nat,m=j/\j < (aF 17 (bCF T)).length
theorem aHM{t:Tr}{n:Int}(hw:Ws 8 t)(hc:(fO t n).code=0):wR t (dY t) (qV t):=by
 have hL:=hw.elems Ot;have hI:=aSQ hw
 have h3:(eK (dB t) (fC t) rF).isSome:=by
  unfold fO at hc
  by_cases h:(eK (dB t) (fC t) rF).isSome
  ·exact h
  ·rw[if_neg h]at hc;exact absurd hc (dX Ob)
 have h8:(aAC (dB t) (fC t) (gaT (bCF t) 0 0) 0 rs0).code=0:=by
  unfold fO at hc;rw[if_pos h3]at hc;exact hc
 have hg:Ws 18 (gaT (bCF t) 0 0):=kY hL;obtain⟨_,k1,k2⟩:=aQQ hI _ _ _ hg h8;obtain⟨g1,g2⟩:=aEB (bCF t) 0 0 hL;obtain⟨j1,j2,_⟩:=wF (F:=dB t) (its:=fC t) (gaT (bCF t) 0 0) 0 rs0 hg;refine⟨by rw[jJ hw];exact k1,by rw[jJ hw,j1,g1],by rw[jJ hw];exact k2,by rw[jJ hw,j2,g2];rfl,?_,?_⟩
 ·rw[<-j2]at g2;have e0:oU t=(aF 16 (hY (dB t) (fC t) (gaT (bCF t) 0 0) 0 rs0)).length:=g2.symm;rcases Nat.eq_zero_or_pos (oU t)with h0|h0
  ·omega
  ·have h7:oU t - 1 < (aF 16 (hY (dB t) (fC t) (gaT (bCF t) 0 0) 0 rs0)).length:=Oa
   obtain⟨b,o,a,l,r,e1,_,h6,_⟩:=k2 _ (List.getElem_mem h7)
   have h5:(aF 16 (gaT (bCF t) 0 0))[oU t - 1]?=some (aF 16 (hY (dB t) (fC t) (gaT (bCF t) 0 0) 0 rs0))[oU t - 1]:=by
    rw[<-j2];exact List.getElem?_eq_getElem h7
   have h4:=aTH (bCF t) 0 0 _ _ hL h5;rw[e1]at h4;have h4:a.which=((0+(oU t - 1):Nat):Int):=h4;omega
 ·obtain⟨e,he⟩:=Option.isSome_iff_exists.1 h3;have hM:qV t=lH e:=by unfold qV;rw[he];rfl
  cases e with
  |nil=>
   exfalso;unfold eK at he;cases hm:fP (dB t) (fC t) rF with
   |none=>rw[hm]at he;cases he
   |some e0=>
    rw[hm]at he;cases e0 with
    |nil=>cases he
    |node b o a l r=>
     dsimp only at he
     split at he<;>cases he
  |node b o a l r=>
   obtain⟨h1,h2⟩:=hI.fn _ _ _ _ _ _ he;refine⟨a.which.toNat,by rw[hM];show a.which=_;omega,?_⟩
   have:a.which.toNat < ((aF 17 (bCF t)).map gJ).length:=by
    rcases Qk a.which.toNat ((aF 17 (bCF t)).map gJ).length with h|h
    ·exact h
    ·unfold mI at h2;rw[List.getElem?_eq_none h]at h2;cases h2
   rw[jJ hw];have e3:=congrArg List.length (j1.trans g1);rw[List.length_map]at e3;omega
theorem aOC{n:Nat}:∀ (t:Tr) (s:Nat),Ws s t->wV s=true->Cv n t:=by
 intro t
 induction t with
 |nil=>intro _ _ _;trivial
 |node b o a l r ihl ihr=>
  intro s hw hs;obtain⟨_,x,y,h0,hl,hr⟩:=hw.parts;obtain⟨hp,kx,ky⟩:=yC h0 hs;exact⟨ihl x hl kx,ihr y hr ky,fun e=>absurd e hp.2.1⟩
theorem aRW{par:Nat->Option Nat}{na nv n:Nat}(hn:∀ k v,par k=some v->k < n):∀ {t:Tr},Vd par na nv t->Cv n t:=by
 intro t
 induction t with
 |nil=>intro _;trivial
 |node b o a l r ihl ihr=>
  intro⟨h1,h2,_,_,h5⟩;exact⟨ihl h1,ihr h2,fun e=>by have:=h5 e;have:=hn _ _ this.2;omega⟩
theorem aSI{t:Tr}{k v:Nat}(h:mI t k=some v):k < (aF 17 (bCF t)).length:=by
 rcases Qk k (aF 17 (bCF t)).length with h2|h2
 ·exact h2
 ·unfold mI at h;rw[List.getElem?_eq_none (by rw[List.length_map];exact h2)]at h;cases h
theorem wR.len{t T:Tr}{m:Int}(h:wR t T m):(aF 17 (bCF T)).length=(aF 17 (bCF t)).length:=by
 have:=congrArg List.length h.par;simpa using this
theorem wR.cv{t T:Tr}{m:Int}(h:wR t T m)(hw:Ws 8 T):Cv (aF 17 (bCF T)).length T:=by
 have hL:=hw.elems Ot
 have key:∀ L:Tr,Ws 18 L->(∀ e∈aF 17 L,aP3 (mI t) (oU t) e)->Cv (aF 17 (bCF T)).length L:=by
  intro L
  induction L with
  |nil=>intro _ _;trivial
  |node b o a e r _ ih=>
   intro hw hf;obtain⟨h15,h6,h7⟩:=aY Ot hw;have hf:∀ e'∈(if bN e=17 then e::aF 17 r else aF 17 r),aP3 (mI t) (oU t) e':=hf;obtain⟨b2,o2,a2,l,r2,rfl,ht⟩:=iB h6
   by_cases h5:a2.tag=17
   ·rw[if_pos (show bN (.node b2 o2 a2 l r2)=17 from h5)]at hf;refine⟨?_,ih h7 (fun e' he=>hf e' (Ql _ he)),fun e=>Oa⟩;obtain⟨_,_,_,l',x,y,z,p,q,e,h1,h2,h3,h4,_⟩:=hf _ (Qj ..);simp only[BT.node.injEq]at e;obtain⟨rfl,rfl,rfl,rfl,rfl⟩:=e;obtain⟨hl,_,_,_,_,_,e,_⟩:=oO h6 h5;have hn:∀ k v,mI t k=some v->k < (aF 17 (bCF T)).length:=fun k v hk=>by rw[h.len];exact aSI hk
    exact⟨aOC l 6 hl rfl,⟨aRW hn h3,aRW hn h4,fun e=>Oa⟩,fun e=>Oa⟩
   ·rw[if_neg (show ¬bN (.node b2 o2 a2 l r2)=17 from h5)]at hf;refine⟨?_,ih h7 hf,fun e=>Oa⟩;obtain⟨_,x,y,h0,hl,hr⟩:=h6.parts;have h8:a2.tag=16:=ht.resolve_right h5;rw[h8]at h0;cases h0;obtain rfl:=hl.nil_of;obtain rfl:=hr.nil_of;exact⟨trivial,trivial,fun e=>Oa⟩
 have:=key _ hL h.fns;rcases hw.lst (.inr (.inr (.inr Oy)))with rfl|⟨b,o,a,l,rfl,ht,_⟩
 ·trivial
 ·exact⟨this,trivial,fun e=>Oa⟩
end
section
open Go.RowKit Go.Lib Go.Deep Go.ChangeMaps Go.MapKept
variable {F:cM} {its:List Tr}
theorem gT(t:Tr):bCF (er t)=er (bCF t):=by cases t<;>rfl
theorem aBU(e:Tr)(n:Int):iX (er e) n=er (iX e n):=by cases e<;>rfl
theorem aLG(e:Tr):bN (er e)=bN e:=by cases e<;>rfl
theorem aC0(e:Tr):eI (er e)=eI e:=by cases e<;>rfl
theorem aHV(e:Tr):bEN (er e)=bEN e:=by cases e<;>rfl
theorem aMT(e:Tr):mF (er e)=mF e:=by cases e<;>rfl
theorem aCW(e:Tr):lH (er e)=lH e:=by cases e<;>rfl
theorem xV(t l:Tr):iS (er t) (er l)=er (iS t l):=by cases t<;>rfl
theorem aMF(t l r:Tr):bCU (er t) (er l) (er r)=er (bCU t l r):=by cases t<;>rfl
theorem aDM(t:Tr):lX (er t)=er (lX t):=by cases t<;>rfl
theorem aDL(t:Tr):qJ (er t)=er (qJ t):=by cases t<;>rfl
theorem aGD:∀ (L:Tr) (nA nF:Nat),gaT (er L) nA nF=er (gaT L nA nF):=by
 intro L
 induction L with
 |nil=>intro _ _;rfl
 |node b o a e r _ ih=>
  intro nA nF;show(if bN (er e)=16 then _ else _)=er (if bN e=16 then _ else _);rw[aLG,aBU,aBU,ih,ih]
  split<;>rfl
theorem aSX:∀ (L:Tr) (i:Nat) (F:cM),gaF (er L) i F=gaF L i F:=by
 intro L
 induction L with
 |nil=>intro _ _;rfl
 |node b o a e r _ ih=>
  intro i F;show gaF (er r) (i+1) (if(look (eI (er e)) F).isSome then F else put (eI (er e)) i F)=_;rw[aC0,ih];rfl
theorem aS6(L:Tr):toL (er L)=(toL L).map er:=by
 induction L with
 |nil=>rfl
 |node b o a e r _ ih=>show er e::toL (er r)=_;rw[ih];rfl
theorem uP(k:Nat)(L:Tr):aF k (er L)=(aF k L).map er:=by
 induction L with
 |nil=>rfl
 |node b o a e r _ ih=>
  show(if bN (er e)=k then er e::aF k (er r)else aF k (er r))=(if bN e=k then e::aF k r else aF k r:List Tr).map er;rw[aLG,ih]
  split<;>rfl
theorem aE6(x:ByteArray):fP F (its.map er) x=(fP F its x).map er:=by
 unfold fP;cases look x F with
 |none=>rfl
 |some i=>simp[List.getElem?_map]
theorem aA3(x:ByteArray):fY F (its.map er) x=(fY F its x).map er:=by
 unfold fY;rw[aE6];cases fP F its x with
 |none=>rfl
 |some e=>
  cases e with
  |nil=>rfl
  |node b o a l r=>
   show(if a.tag=16 then _ else _)=Option.map er (if a.tag=16 then _ else _)
   split<;>rfl
theorem rZ(x:ByteArray):eK F (its.map er) x=(eK F its x).map er:=by
 unfold eK;rw[aE6];cases fP F its x with
 |none=>rfl
 |some e=>
  cases e with
  |nil=>rfl
  |node b o a l r=>
   show(if a.tag=17 then _ else _)=Option.map er (if a.tag=17 then _ else _)
   split<;>rfl
theorem aF1(s:Rs)(x:ByteArray)(p:Int)(n:Nat):s.callName F (its.map er) x p n=s.callName F its x p n:=by
 unfold Rs.callName;rw[rZ];cases eK F its x with
 |none=>rfl
 |some e=>
  cases e with
  |nil=>rfl
  |node b o a l r=>
   show(if n=aD (er l)then _ else _)=(if n=aD l then _ else _);rw[qC]
theorem aIJ(x:ByteArray)(n:Nat)(q:Int):iY F (its.map er) x n q=iY F its x n q:=by
 unfold iY;rw[rZ];cases eK F its x with
 |none=>rfl
 |some e=>
  cases e with
  |nil=>rfl
  |node b o a l r=>
   show(if n=aD (er l)then _ else _)=(if n=aD l then _ else _);rw[qC]
theorem aCO(s:Rs)(x:ByteArray)(p:Int):s.arrayName F (its.map er) x p=s.arrayName F its x p:=by
 unfold Rs.arrayName;rw[aA3];cases fY F its x<;>rfl
theorem aIK(x:ByteArray)(q:Int):fL F (its.map er) x q=fL F its x q:=by
 unfold fL;rw[aA3];cases fY F its x with
 |none=>rfl
 |some e=>exact aCW e
theorem aMN(a:Nd)(n:Nat)(s:Rs):rs1 F (its.map er) a n s=rs1 F its a n s:=by unfold rs1;rw[aCO,aF1]
theorem aS5(a:Nd)(n:Nat)(s:Rs):wh1 F (its.map er) a n s=wh1 F its a n s:=by unfold wh1;rw[aIK,aIJ]
theorem pY:∀ (t:Tr) (s:Rs),rsT F (its.map er) t s=rsT F its t s:=by
 intro t
 induction t with
 |nil=>intro s;rfl
 |node b o a l r ihl ihr=>intro s;simp only[rsT,ihl,ihr,aMN]
theorem aBX:∀ (t:Tr) (s:Rs),reT F (its.map er) t s=reT F its t s:=by
 intro t
 induction t with
 |nil=>intro s;rfl
 |node b o a l r ihl ihr=>intro s;simp only[reT,pY,ihl,ihr,aMN,aS5]
theorem aQB:∀ (L:Tr) (s:Rs),jF (er L) s=jF L s:=by
 intro L
 induction L with
 |nil=>intro _;rfl
 |node b o a e r _ ih=>intro s;show jF (er r) (s.param (eI (er e)) (bEN (er e)))=_;rw[aC0,aHV,ih];rfl
theorem aQ9:∀ (L:Tr) (s:Rs),lE (er L) s=er (lE L s):=by
 intro L
 induction L with
 |nil=>intro _;rfl
 |node b o a e r _ ih=>intro s;show BT.node 0 0 a (iX (er e) _) (lE (er r) (s.param (eI (er e)) (bEN (er e))))=_;rw[aC0,aHV,ih,aBU];rfl
theorem aS3:∀ (L:Tr) (i:Nat) (s:Rs),whR F (its.map er) (er L) i s=whR F its L i s:=by
 intro L
 induction L with
 |nil=>intro _ _;rfl
 |node b o a e r _ ih=>
  intro i s;show whR F (its.map er) (er r) (i+1) (rsT F (its.map er) (qJ (er e)) ((rsT F (its.map er) (lX (er e)) s).fifth i (mF (er e))))=_;rw[ih,aDM,aDL,pY,pY,tE,tE,aMT];rfl
theorem aS1:∀ (L:Tr) (i:Nat) (s:Rs),whT F (its.map er) (er L) i s=er (whT F its L i s):=by
 intro L
 induction L with
 |nil=>intro _ _;rfl
 |node b o a e r _ ih=>
  intro i s;show BT.node 0 0 a (bCU (er e) (reT F (its.map er) (lX (er e)) s) (reT F (its.map er) (qJ (er e)) ((rsT F (its.map er) (lX (er e)) s).fifth i (mF (er e))))) (whT F (its.map er) (er r) (i+1) (rsT F (its.map er) (qJ (er e)) ((rsT F (its.map er) (lX (er e)) s).fifth i (mF (er e)))))=_;rw[ih,aDM,aDL,pY,pY,tE,tE,aBX,aBX,aFW,aFW,aMT,aMF];rfl
theorem aNY(a:Nd)(l p:Tr)(s:Rs):fnS F (its.map er) a (er l) (er p) s=fnS F its a l p s:=by
 unfold fnS;rw[gT,gT,aQB,aS3]
theorem aNR(e:Tr)(i:Nat)(s:Rs):itR F (its.map er) (er e) i s=itR F its e i s:=by
 cases e with
 |nil=>rfl
 |node b o a l r=>
  show(if a.tag=16 then(s.twice F a i).arr a else fnR F (its.map er) (.node 0 0 a (er l) (er r)) (s.twice F a i))=(if a.tag=16 then(s.twice F a i).arr a else fnR F its (.node b o a l r) (s.twice F a i))
  congr 1
  cases r with
  |nil=>rfl
  |node x y z p q=>
   show rsT F (its.map er) (er q) (fnS F (its.map er) a (er l) (er p) _).2=rsT F its q (fnS F its a l p _).2;rw[aNY,pY,tE]
theorem aSR(e:Tr)(i:Nat)(s:Rs):itT F (its.map er) (er e) i s=er (itT F its e i s):=by
 cases e with
 |nil=>rfl
 |node b o a l r=>
  show(if a.tag=16 then BT.node 0 0 a (er l) (er r)else fnT F (its.map er) (.node 0 0 a (er l) (er r)) (s.twice F a i))=er (if a.tag=16 then .node b o a l r else fnT F its (.node b o a l r) (s.twice F a i))
  split
  ·rfl
  ·cases r with
   |nil=>rfl
   |node x y z p q=>
    show BT.node 0 0 {a with val:=_} (iS (er l) (lE (bCF (er l)) _)) (.node 0 0 z (iS (er p) (whT F (its.map er) (bCF (er p)) 0 (fnS F (its.map er) a (er l) (er p) _).1)) (reT F (its.map er) (er q) (fnS F (its.map er) a (er l) (er p) _).2))=_;rw[aNY,pY,tE,aBX,aFW,gT,gT,aQ9,aS1,xV,xV];rfl
theorem aQR:∀ (L:Tr) (i:Nat) (s:Rs),aAC F (its.map er) (er L) i s=aAC F its L i s:=by
 intro L
 induction L with
 |nil=>intro _ _;rfl
 |node b o a e r _ ih=>intro i s;show aAC F (its.map er) (er r) (i+1) (itR F (its.map er) (er e) i s)=_;rw[aNR,ih];rfl
theorem aQP:∀ (L:Tr) (i:Nat) (s:Rs),hY F (its.map er) (er L) i s=er (hY F its L i s):=by
 intro L
 induction L with
 |nil=>intro _ _;rfl
 |node b o a e r _ ih=>intro i s;show BT.node 0 0 a (itT F (its.map er) (er e) i s) (hY F (its.map er) (er r) (i+1) (itR F (its.map er) (er e) i s))=_;rw[aNR,aSR,ih];rfl
theorem uQ(t:Tr):fC (er t)=(fC t).map er:=by unfold fC;rw[gT,aGD,aS6]
theorem qG(t:Tr):dB (er t)=dB t:=by unfold dB;rw[gT,aSX]
theorem aQ6(t:Tr):aFV (er t)=aFV t:=by unfold aFV;rw[qG,uQ,gT,aGD,aQR]
theorem aHI(t:Tr)(n:Int):fO (er t) n=fO t n:=by
 unfold fO;rw[aQ6,qG,uQ,rZ];cases eK (dB t) (fC t) rF<;>rfl
theorem uJ(t:Tr):dY (er t)=er (dY t):=by unfold dY;rw[qG,uQ,gT,aGD,aQP,xV]
theorem aQ5(t:Tr):qV (er t)=qV t:=by
 unfold qV;rw[qG,uQ,rZ];cases eK (dB t) (fC t) rF with
 |none=>rfl
 |some e=>exact aCW e
theorem aHW(e:Tr):gJ (er e)=gJ e:=by
 cases e with
 |nil=>rfl
 |node b o a l r=>exact qC l
end
section
open Go.RowKit Go.Lib Go.Deep Go.ChangeMaps Go.MapKept
variable {F:cM} {its:List Tr} {H pb:Nat}
theorem aEI:∀ (t t':Tr),Sh t t'->aUI H t->aUI H t':=by
 intro t
 induction t with
 |nil=>intro t' h _;cases t' with
  |nil=>trivial
  |node=>exact h.elim
 |node b o a l r ihl ihr=>
  intro t' h hf;cases t' with
  |nil=>exact h.elim
  |node b' o' a' l' r'=>
   obtain⟨rfl,_,ht,_,_,_,_,_,_,_,hl,hr⟩:=h;exact⟨ihl _ hl hf.1,ihr _ hr hf.2.1,fun hp=>hf.2.2 (by rw[<-ht];exact hp)⟩
theorem aGF{e:Tr}(h:aUI H e)(n:Int):aUI H (iX e n):=by
 cases e with
 |nil=>trivial
 |node b o a l r=>exact⟨h.1,h.2.1,h.2.2⟩
theorem aGG:∀ (L:Tr) (s:Rs),aUI H L->aUI H (lE L s):=by
 intro L
 induction L with
 |nil=>intro _ _;trivial
 |node b o a e r _ ih=>intro s h;exact⟨aGF h.1 _,ih _ h.2.1,h.2.2⟩
theorem rG{t L:Tr}(h:aUI H t)(hl:aUI H L):aUI H (iS t L):=by
 cases t with
 |nil=>trivial
 |node b o a l r=>exact⟨hl,h.2.1,h.2.2⟩
theorem aKA{e:Tr}(i:Nat)(s:Rs)(h:aUI H e):aUI H (itT F its e i s):=by
 cases e with
 |nil=>trivial
 |node b o a l r=>
  show aUI H (if a.tag=16 then BT.node b o a l r else fnT F its (.node b o a l r) (s.twice F a i))
  split
  ·exact h
  ·cases r with
   |nil=>exact h
   |node x y z p q=>
    exact⟨rG h.1 (aGG _ _ (jI h.1)),⟨rG h.2.1.1 (aEI _ _ (bCS _ _ _) (jI h.2.1.1)),aEI _ _ (dJ _ _ _ _) h.2.1.2.1,h.2.1.2.2⟩,h.2.2⟩
theorem aGH:∀ (L:Tr) (i:Nat) (s:Rs),aUI H L->aUI H (hY F its L i s):=by
 intro L
 induction L with
 |nil=>intro _ _ _;trivial
 |node b o a e r _ ih=>intro i s h;exact⟨aKA i s h.1,ih _ _ h.2.1,h.2.2⟩
theorem lM{t:Tr}(hw:Ws 8 t):Ws 8 (dY t)/\ps (dY t)=ps t/\(∀ H,aUI H t->aUI H (dY t))/\bCH (dY t)=bCH t:=by
 have hL:=hw.elems Ot;have hg:Ws 18 (gaT (bCF t) 0 0):=kY hL;have sg:=bCV (bCF t) 0 0 hL;obtain⟨h1,h2,h3,_,_⟩:=qF (F:=dB t) (its:=fC t) (gaT (bCF t) 0 0) 0 rs0 hg;have h0:aO (hY (dB t) (fC t) (gaT (bCF t) 0 0) 0 rs0)=aO (bCF t):=h3.trans sg.lenL;refine⟨uB Ot hw h1 h0,yO Ot hw (h2.trans sg.ps),fun H hf=>rG hf (aGH _ _ _ (aB5 _ _ _ (jI hf))),?_⟩;rcases hw.lst (.inr (.inr (.inr Oy)))with rfl|⟨b,o,a,l,rfl,ht,_⟩
 ·rfl
 ·show(if a.tag=20 then _ else _)=(if a.tag=20 then _ else _);rw[if_pos ht,if_pos ht]
  congr 1
theorem aJB{t:Tr}(hw:Ws 8 t):nH 17 (bCF t)=(aF 17 (bCF (dY t))).map cB:=by
 have hL:=hw.elems Ot;rw[jJ hw,(wF _ _ _ (kY hL)).2.2,aHL,vV]
theorem aDT{w:World}{base n:Nat}{e:TypeId}{v:Value}{xs:List Value}(h:w.ownsRow base e 1 v n xs):n=xs.length:=by have:=h.1;omega
theorem IsT.next{w w':World}(hb:∀ k,k < w.heap.size->w'.heap[k]?=w.heap[k]?):∀ {t:Tr},IsT w t->IsT w' t:=by
 intro t
 induction t with
 |nil=>intro _;trivial
 |node b o a l r ihl ihr=>
  intro h;refine⟨ihl h.1,ihr h.2.1,?_⟩;have ho:=h.2.2;unfold Own at ho ⊢
  have key:∀ {n:Nat},dH n w b a l r->dH n w' b a l r:=by
   intro n h
   match n,h with
   |0,h|1,h|2,h|3,h|4,h|5,h|6,h|7,h|8,h|9,h|10,h|11,h|12,h|13,h|14,h|16,h|17,h=>exact At.same h (hb _ (At.lt h))
   |20,h=>exact⟨h.1,At.same h.2 (hb _ (At.lt h.2))⟩
   |15,_|18,_|19,_=>trivial
   |n+21,_=>trivial
  exact key ho
end
section
open Go.RowKit Go.Lib Go.Deep Go.ChangeMaps Go.MapKept
def rdT(s:ByteArray):Tr:=(bP (aW s)).2
def eZ(s:ByteArray):Int × Int:=
 if 4000 < s.size then(1,0)else if(dN s).code≠0 then((dN s).code,(dN s).pos)
 else if(bP (aW s)).1.code≠0 then((bP (aW s)).1.code,(bP (aW s)).1.pos)else((fO (rdT s) s.size).code,(fO (rdT s) s.size).pos)
def cR(t:Tr):List Tr:=aF 17 (bCF (dY t))
def aFH(s:ByteArray):Tr:=siT (cR (rdT s)) (dY (rdT s)) []
structure Pg0(H g cap pb:Nat)(s:ByteArray)(t:Tr)(vA vF vS:Value)(w:World):Prop where
 toks:aGY (aW s) g cap w
 er:YtikffmloeifkpaaGreatDoor.er t=rdT s
 ge:H<=pb
 prog:w.heap[pb]?=some (.cells (qM (bCH t) vA vF (qV t) vS) 111 (0,0))
 arrs:w.ownsRow H 192 1 vA (oU t) (nH 16 (bCF t))
 fns:aAG H vF (cR t) w
 sites:w.ownsRow H 55 3 vS (siR (cR t) (dY t) []).length (dC (siR (cR t) (dY t) []))
 is:IsT w (siT (cR t) (dY t) [])
 fresh:aUI H t
structure PgW(ab:Nat)(s:ByteArray)(w:World):Prop where
 ex:∃ H g cap pb t vA vF vS,w.heap[ab]?=some (.cells #[.slice (some ⟨g,0,none⟩) (aW s).length cap,.pointer (some ⟨pb,0,none⟩)] 94 (0,0))/\Pg0 H g cap pb s t vA vF vS w
theorem Pg0.off{H g cap pb k:Nat}{s:ByteArray}{t:Tr}{vA vF vS:Value}{w w':World}{c:Array Value}(h:Pg0 H g cap pb s t vA vF vS w)(hk:w.heap[k]?=some (.cells c 37 (0,0)))(hw:∀ i,i < w.heap.size->i≠k->w'.heap[i]?=w.heap[i]?):Pg0 H g cap pb s t vA vF vS w':=by
 have off:∀ {j:Nat} {c2:Array Value} {ty:TypeId},w.heap[j]?=some (.cells c2 ty (0,0))->ty≠37->w'.heap[j]?=w.heap[j]?:=fun hj h1=>hw _ (Oo hj) (bEF hj hk h1);obtain⟨cur,hg,h0⟩:=h.toks.row;refine⟨⟨⟨cur,(off hg Ob).trans hg,h0⟩,h.toks.cap_,h.toks.few,h.toks.pos,h.toks.last,h.toks.vals⟩,h.er,h.ge,(off h.prog Ob).trans h.prog,cD h.arrs (fun j hj=>?_),⟨cD h.fns.row (fun j hj=>?_),fun e he=>?_⟩,cD h.sites (fun j hj=>?_),IsT.off Ox hk hw h.is,h.fresh⟩
 ·obtain⟨⟨c,hc⟩,_⟩:=bEH h.arrs hj;exact off hc Ob
 ·obtain⟨⟨c,hc⟩,_⟩:=bEH h.fns.row hj;exact off hc Ob
 ·obtain⟨b,o,a,l,x,y,z,p,q,e1,e2,e3⟩:=h.fns.own e he;exact⟨b,o,a,l,x,y,z,p,q,e1,At.off e2 hk Ob hw,e3⟩
 ·obtain⟨⟨c,hc⟩,_⟩:=bEH h.sites hj;exact off hc Ob
def aH1(s:ByteArray)(w:World):Ending->World->Prop:=fun e w'=>Below w.heap.size w w'/\
 (((eZ s).1≠0/\e= .returned (.tuple #[.pointer none,.agg #[.int .i64 (eZ s).1,.int .i64 (eZ s).2]]))\/
  ((eZ s).1=0/\∃ ab,e= .returned (.tuple #[.pointer (some ⟨ab,0,none⟩),.agg #[.int .i64 0,.int .i64 0]])/\PgW ab s w'))
theorem iV{w:World}{k:Nat}{u v:Value}{t:TypeId}(h:w.heap[k]?=some (.cells #[u,v] t (0,0))):w.cell? ⟨k,0,none⟩=some u/\w.cell? ⟨k,1,none⟩=some v/\∀ o,w.frozen? ⟨k,o,none⟩=false:=
 ⟨Og h rfl,Og h rfl,fun o=>by simp[World.frozen?,h]⟩
theorem uU{w:World}{k:Nat}{u v u' v':Value}{t:TypeId}(h:w.heap[k]?=some (.cells #[u,v] t (0,0))):((w.setCell ⟨k,0,none⟩ u').setCell ⟨k,1,none⟩ v').heap[k]?=some (.cells #[u',v'] t (0,0)):=by
 have h1:=aM (o:=0) u' h;have h2:=aM (o:=1) v' h1;exact h2
theorem bCO{w:World}{k:Nat}{u v:Value}:∀ i,i≠k->((w.setCell ⟨k,0,none⟩ u).setCell ⟨k,1,none⟩ v).heap[i]?=w.heap[i]?:=fun _ hi=>(Om hi).trans (Om hi)
theorem aP0(s:ByteArray)(w:World)(ht:Tab w)(hz:s.size<=4000):
 Calls Tryz.prog 19 #[.string s] w (aH1 s w):=by
 have h0:=aBP ht;have sa:(w.alloc (.cells #[.int .i64 0,.int .i64 0] 37)).heap.size=w.heap.size+1:=Od
 have ba:Below w.heap.size w (w.alloc (.cells #[.int .i64 0,.int .i64 0] 37)):=(Below.refl _ _).alloc Ol _;have ta:Tab (w.alloc (.cells #[.int .i64 0,.int .i64 0] 37)):=ht.below ba h0;have na:(w.alloc (.cells #[.int .i64 0,.int .i64 0] 37)).heap[w.heap.size]?=some (.cells #[.int .i64 0,.int .i64 0] 37 (0,0)):=Qb w _;go_enter Tryz.func19,Tryz.ntmps19
 go_wp2_with fail
 generalize w.alloc (.cells #[.int .i64 0,.int .i64 0] 37)=Wa at*;refine(aRH s Wa ta hz).mono ?_;rintro e W1 ⟨b1,y3⟩;rw[sa]at b1;have l1:=b1.size;have n1:W1.heap[w.heap.size]?=some (.cells #[.int .i64 0,.int .i64 0] 37 (0,0)):=(b1.block _ Oa).trans na;have bb1:Below w.heap.size w W1:=ba.trans (b1.mono Oa);rcases y3 with⟨hc,rfl⟩|⟨hc,g,cap,rfl,k6⟩
 ·have k4:((dN s).code !=0)=true:=by simpa using hc
  have k1:(W1.alloc (.cells #[.int .i64 (dN s).code,.int .i64 (dN s).pos] 37)).heap[w.heap.size]?=some (.cells #[.int .i64 0,.int .i64 0] 37 (0,0)):=(On Oa).trans n1;have k2:(W1.alloc (.cells #[.int .i64 (dN s).code,.int .i64 (dN s).pos] 37)).heap[W1.heap.size]?=some (.cells #[.int .i64 (dN s).code,.int .i64 (dN s).pos] 37 (0,0)):=Qb _ _;have bb2:Below w.heap.size w (W1.alloc (.cells #[.int .i64 (dN s).code,.int .i64 (dN s).pos] 37)):=bb1.alloc Oa _;have y6:w.heap.size≠W1.heap.size:=Oa
  have h4:eZ s=((dN s).code,(dN s).pos):=by unfold eZ;rw[Oh,if_pos hc]
  go_wp2_with fail
  generalize W1.alloc (.cells #[.int .i64 (dN s).code,.int .i64 (dN s).pos] 37)=W2 at*;obtain⟨q0,q1,z0⟩:=iV k1;obtain⟨p0,p1,z1⟩:=iV k2;have HR:Hid _:=h4;have HC:Hid _:=hc;clear h4 hc ba b1 bb1 n1 na ta ht h0 hz k1 k2;generalize z5:(dN s).code=c3 at*;generalize z4:(dN s).pos=c4 at*;clear z5 z4;go_region
  all_goals go_wp2
  all_goals obtain⟨x0,x1⟩:=dQ (w:=W2) (u0:= .int .i64 c3) (u1:= .int .i64 c4) q0 q1
  all_goals (refine bodyPost_ret (v:= .tuple #[.pointer none,.agg #[.int .i64 c3,.int .i64 c4]]) (by simp[results,Tryz.results19,go_sem,x0,x1]) rfl ⟨?_,Or.inl ⟨?_,?_⟩⟩)
  all_goals first|(rw[HR.out];exact HC.out)|(rw[HR.out])|exact(Qm (p:=⟨w.heap.size,1,none⟩) (Qm (p:=⟨w.heap.size,0,none⟩) bb2 Ol _) Ol _).drew|exact Qm (p:=⟨w.heap.size,1,none⟩) (Qm (p:=⟨w.heap.size,0,none⟩) bb2.drew Ol _) Ol _
 ·have h7:(aW s).length=(dN s).words.length+1:=by simp[aW]
  have y2:=mV hc hz
  have h1:aGY (aW s) g cap (W1.alloc (.cells #[.int .i64 0,.int .i64 0] 37)):=by
   rcases k6.2 with⟨hv,_⟩|⟨g',cap',cur,hv,hb,hh,z8,hmx,hcs,k5⟩
   ·cases hv
   ·simp only[Value.slice.injEq,Option.some.injEq,Addr.mk.injEq]at hv;obtain⟨⟨rfl,_,_⟩,_,rfl⟩:=hv;exact⟨⟨cur,(On (Oo hh)).trans hh,by rw[h7];exact k5⟩,by rw[h7];exact z8,y2.few,by rw[h7];omega,lI s,y2.vals⟩
  have hP:=aL2 (aW s) g cap _ h1;rw[h7]at hP;have s2:(W1.alloc (.cells #[.int .i64 0,.int .i64 0] 37)).heap.size=W1.heap.size+1:=Od
  have k1:(W1.alloc (.cells #[.int .i64 0,.int .i64 0] 37)).heap[w.heap.size]?=some (.cells #[.int .i64 0,.int .i64 0] 37 (0,0)):=(On Oa).trans n1;have k2:(W1.alloc (.cells #[.int .i64 0,.int .i64 0] 37)).heap[W1.heap.size]?=some (.cells #[.int .i64 0,.int .i64 0] 37 (0,0)):=Qb _ _;have bb2:Below w.heap.size w (W1.alloc (.cells #[.int .i64 0,.int .i64 0] 37)):=bb1.alloc Oa _;have y6:w.heap.size≠W1.heap.size:=Oa
  go_wp2_with fail
  generalize W1.alloc (.cells #[.int .i64 0,.int .i64 0] 37)=W2 at*;refine hP.mono ?_;rintro e W3 ⟨b3,y3⟩;have l3:=b3.size;have m1:=(b3.block w.heap.size Oa).trans k1;have m2:=(b3.block W1.heap.size Oa).trans k2;have bb3:Below w.heap.size w W3:=bb2.trans (b3.mono Oa)
  have h2:aGY (aW s) g cap W3:=by
   obtain⟨cur,hg,k5⟩:=h1.row;exact⟨⟨cur,(b3.block g (Oo hg)).trans hg,k5⟩,h1.cap_,h1.few,h1.pos,h1.last,h1.vals⟩
  obtain⟨q0,q1,z0⟩:=iV m1;obtain⟨p0,p1,z1⟩:=iV m2;rcases y3 with⟨k8,rfl⟩|⟨k8,pb,t,rfl,j5,k9,y7,k3,hni⟩
  ·have h4:eZ s=((bP (aW s)).1.code,(bP (aW s)).1.pos):=by unfold eZ;rw[Oh,Oh,if_pos k8]
   have HR:Hid _:=h4;have HC:Hid _:=k8;have k4:((bP (aW s)).1.code !=0)=true:=by simpa using k8
   have e1:=(bCO (w:=W3) (k:=W1.heap.size) (u:= .int .i64 (bP (aW s)).1.code) (v:= .int .i64 (bP (aW s)).1.pos) w.heap.size y6).trans m1;have e2:=uU (u':= .int .i64 (bP (aW s)).1.code) (v':= .int .i64 (bP (aW s)).1.pos) m2;have bb4:Below w.heap.size w ((W3.setCell ⟨W1.heap.size,0,none⟩ (.int .i64 (bP (aW s)).1.code)).setCell ⟨W1.heap.size,1,none⟩ (.int .i64 (bP (aW s)).1.pos)):=(bb3.setCell (p:=⟨W1.heap.size,0,none⟩) (by show w.heap.size<=W1.heap.size;omega) _).setCell (p:=⟨W1.heap.size,1,none⟩) (by show w.heap.size<=W1.heap.size;omega) _;clear h4 k8 ba b1 bb1 n1 na ta ht h0 hz k1 k2 hc k6 h7 y2 h1 hP h2 b3 bb2 m1 m2;generalize z5:(bP (aW s)).1.code=c3 at*;generalize z4:(bP (aW s)).1.pos=c4 at*;clear z5 z4;go_wp2_with fail
   generalize (W3.setCell ⟨W1.heap.size,0,none⟩ (.int .i64 c3)).setCell ⟨W1.heap.size,1,none⟩ (.int .i64 c4)=W4 at*;clear q0 q1 z0 p0 p1 z1 bb3;obtain⟨q0,q1,z0⟩:=iV e1;obtain⟨p0,p1,z1⟩:=iV e2;clear e1 e2;go_region
   all_goals go_wp2
   all_goals obtain⟨x0,x1⟩:=dQ (w:=W4) (u0:= .int .i64 c3) (u1:= .int .i64 c4) q0 q1
   all_goals (refine bodyPost_ret (v:= .tuple #[.pointer none,.agg #[.int .i64 c3,.int .i64 c4]]) (by simp[results,Tryz.results19,go_sem,x0,x1]) rfl ⟨?_,Or.inl ⟨?_,?_⟩⟩)
   all_goals first|(rw[HR.out];exact HC.out)|(rw[HR.out])|exact(Qm (p:=⟨w.heap.size,1,none⟩) (Qm (p:=⟨w.heap.size,0,none⟩) bb4 Ol _) Ol _).drew|exact Qm (p:=⟨w.heap.size,1,none⟩) (Qm (p:=⟨w.heap.size,0,none⟩) bb4.drew Ol _) Ol _
  ·have y5:Ws 8 t:=(Ws.er t 8).1 (by rw[y7];exact(qA y2 (lI s) h1.pos k8).1);have g6:=aRN (aBN hc) (by have:=(qA y2 (lI s) h1.pos k8).2;exact this);have j4:ps t=ps (bP (aW s)).2:=by rw[<-aRP t,y7]
   rw[<-j4]at g6;obtain⟨z7,y1⟩:=g6;have z3:=h1.few;have z8:=aQN t;have e1:=(bCO (w:=W3) (k:=W1.heap.size) (u:= .int .i64 0) (v:= .int .i64 0) w.heap.size y6).trans m1;have e2:=uU (u':= .int .i64 0) (v':= .int .i64 0) m2;have bb4:Below w.heap.size w ((W3.setCell ⟨W1.heap.size,0,none⟩ (.int .i64 0)).setCell ⟨W1.heap.size,1,none⟩ (.int .i64 0)):=(bb3.setCell (p:=⟨W1.heap.size,0,none⟩) (by show w.heap.size<=W1.heap.size;omega) _).setCell (p:=⟨W1.heap.size,1,none⟩) (by show w.heap.size<=W1.heap.size;omega) _;have z6:dV W1.heap.size t:=k3.fresh.notIn Oa;have y0:=(k3.set z6 0 (.int .i64 0)).set z6 1 (.int .i64 0);have k0:((W3.setCell ⟨W1.heap.size,0,none⟩ (.int .i64 0)).setCell ⟨W1.heap.size,1,none⟩ (.int .i64 0)).heap[pb]?=some (.cells (qM (bCH t) (.slice none 0 0) (.slice none 0 0) 0 (.slice none 0 0)) 111 (0,0)):=(bCO pb Oa).trans k9
   have h3:aGY (aW s) g cap ((W3.setCell ⟨W1.heap.size,0,none⟩ (.int .i64 0)).setCell ⟨W1.heap.size,1,none⟩ (.int .i64 0)):=by
    obtain⟨cur,hg,k5⟩:=h2.row;exact⟨⟨cur,(bCO g (bEF hg m2 Ob)).trans hg,k5⟩,h2.cap_,h2.few,h2.pos,h2.last,h2.vals⟩
   have l4:((W3.setCell ⟨W1.heap.size,0,none⟩ (.int .i64 0)).setCell ⟨W1.heap.size,1,none⟩ (.int .i64 0)).heap.size=W3.heap.size:=by simp[World.setCell]
   have h9:=aFA y5 k3.fresh z7 Oa j5 s.size _ (by rw[l4];exact b3.size) y0.is k0;go_wp2_with fail
   generalize (W3.setCell ⟨W1.heap.size,0,none⟩ (.int .i64 0)).setCell ⟨W1.heap.size,1,none⟩ (.int .i64 0)=W4 at*;refine h9.mono ?_;rintro e W5 ⟨rfl,l5,os5,tp5,out5,bl5,y4⟩;have bb5:Below w.heap.size w W5:=bb4.trans ⟨os5,tp5,out5,l5,fun k hk=>bl5 k Oa⟩;have f1:=(bl5 w.heap.size Oa).trans e1;have f2:=(bl5 W1.heap.size Oa).trans e2;have j7:∀ k,k < W2.heap.size->W5.heap[k]?=W4.heap[k]?:=bl5;have h6:=k3.fresh;clear q0 q1 z0 p0 p1 z1 m1 m2 k9 k0 y0 k3 bl5;obtain⟨q0,q1,z0⟩:=iV f1;obtain⟨p0,p1,z1⟩:=iV f2;have j3:fO (rdT s) s.size=fO t s.size:=by rw[<-aHI t];show fO (rdT s) _=fO (er t) _;rw[y7];rfl
   have h4:eZ s=((fO t s.size).code,(fO t s.size).pos):=by unfold eZ;rw[Oh,Oh,Oh,j3]
   have e1:=(bCO (w:=W5) (k:=W1.heap.size) (u:= .int .i64 (fO t s.size).code) (v:= .int .i64 (fO t s.size).pos) w.heap.size y6).trans f1;have e2:=uU (u':= .int .i64 (fO t s.size).code) (v':= .int .i64 (fO t s.size).pos) f2;have bb6:Below w.heap.size w ((W5.setCell ⟨W1.heap.size,0,none⟩ (.int .i64 (fO t s.size).code)).setCell ⟨W1.heap.size,1,none⟩ (.int .i64 (fO t s.size).pos)):=(bb5.setCell (p:=⟨W1.heap.size,0,none⟩) (by show w.heap.size<=W1.heap.size;omega) _).setCell (p:=⟨W1.heap.size,1,none⟩) (by show w.heap.size<=W1.heap.size;omega) _
   by_cases k7:(fO t s.size).code=0
   ·have y8:=aHM y5 k7;obtain⟨w8,pps,d1,hval⟩:=lM y5;obtain⟨nA,nF,vA,vF,g9,j0,z9,d5⟩:=y4 k7;have d2:(eZ s).1=0:=by rw[h4];exact k7
    rw[k7]at e2 bb6 e1;have oth:∀ i,i < W5.heap.size->i≠W1.heap.size->((W5.setCell ⟨W1.heap.size,0,none⟩ (.int .i64 0)).setCell ⟨W1.heap.size,1,none⟩ (.int .i64 (fO t s.size).pos)).heap[i]?=W5.heap[i]?:=fun i _ hi=>bCO i hi
    have g3:=cD (w':=(W5.setCell ⟨W1.heap.size,0,none⟩ (.int .i64 0)).setCell ⟨W1.heap.size,1,none⟩ (.int .i64 (fO t s.size).pos)) j0 (fun j hj=>by
     obtain⟨⟨c,j9⟩,_⟩:=bEH j0 hj;exact bCO j (bEF j9 f2 Ob))
    have g0:=cD (w':=(W5.setCell ⟨W1.heap.size,0,none⟩ (.int .i64 0)).setCell ⟨W1.heap.size,1,none⟩ (.int .i64 (fO t s.size).pos)) z9 (fun j hj=>by
     obtain⟨⟨c,j9⟩,_⟩:=bEH z9 hj;exact bCO j (bEF j9 f2 Ob))
    have d4:=IsT.off Ox f2 oth d5;have g8:=(bCO (w:=W5) (k:=W1.heap.size) (u:= .int .i64 0) (v:= .int .i64 (fO t s.size).pos) pb Oa).trans g9;obtain rfl:=aDT j0;obtain rfl:=aDT z9;rw[aJB y5,List.length_map]at g0;have l6:((W5.setCell ⟨W1.heap.size,0,none⟩ (.int .i64 0)).setCell ⟨W1.heap.size,1,none⟩ (.int .i64 (fO t s.size).pos)).heap.size=W5.heap.size:=by simp[World.setCell]
    have d0:(nH 16 (bCF t)).length=oU t:=by rw[vV,List.length_map];rfl
    rw[d0]at g3
    have h5:aGY (aW s) g cap ((W5.setCell ⟨W1.heap.size,0,none⟩ (.int .i64 0)).setCell ⟨W1.heap.size,1,none⟩ (.int .i64 (fO t s.size).pos)):=by
     obtain⟨cur,hg,k5⟩:=h3.row;obtain⟨cur2,j8,j1⟩:=h1.row;have j6:=(Oo j8);have z2:=(j7 g j6).trans hg;exact⟨⟨cur,(bCO g (bEF z2 f2 Ob)).trans z2,k5⟩,h3.cap_,h3.few,h3.pos,h3.last,h3.vals⟩
    have j6:g < W2.heap.size:=by
     obtain⟨cur2,j8,j1⟩:=h1.row;exact(Oo j8)
    have y9:=aH2 w8 (d1 _ h6) (by rw[pps];exact z7) (y8.cv w8) j5 _ (by rw[l6];omega) d4 g8 g0 (by rw[pps];omega);rw[k7];have d9:Hid _:=d2;have d8:Hid (er t=rdT s):=y7;have g5:Hid (aUI W2.heap.size t):=h6;have g4:Hid _:=h7;clear h4 k7 j3 y4 f1 f2 bb5 j7 h9 h3 bb4 y5 j4 z7 y1 z3 z8 z6 h2 hP h1 y2 k6 hc k8 y7 h6 d2 g9 j0 z9 d5 oth y8 w8 pps d1 d4 g0 g8 d0 h7;generalize (fO t s.size).pos=c4 at*;go_wp2_with fail
    generalize (W5.setCell ⟨W1.heap.size,0,none⟩ (.int .i64 0)).setCell ⟨W1.heap.size,1,none⟩ (.int .i64 c4)=W6 at*;refine y9.mono ?_;rintro e W7 ⟨rfl,nb,j2,d3,fr7⟩;have bb7:Below w.heap.size w W7:=bb6.trans ⟨fr7.os,fr7.tape,fr7.output,fr7.size,fun k hk=>fr7.below k Oa⟩;have g1:=(fr7.below w.heap.size Oa).trans e1;obtain⟨vS,g7,d6⟩:=j2.prog;have d7:=kJ g3 fr7 Ox (fun t p hp=>(Pt.body t p hp).pos)
    have h8:aGY (aW s) g cap W7:=by
     obtain⟨cur,hg,k5⟩:=h5.row;exact⟨⟨cur,(fr7.below g j6).trans hg,k5⟩,h5.cap_,h5.few,h5.pos,h5.last,h5.vals⟩
    have P7:Pg0 W2.heap.size g cap pb s t vA vF vS W7:=⟨h8,d8.out,j5,g7,d7,j2.fns,d6,d3,g5.out⟩;have l7:=bb7.size;have hlt7:w.heap.size < W7.heap.size:=(Oo g1);clear q0 q1 z0 p0 p1 z1;obtain⟨q0,q1,z0⟩:=iV g1
    have FIN:Hid (Below w.heap.size w (((W7.setCell ⟨w.heap.size,0,none⟩ (.int .i64 0)).setCell ⟨w.heap.size,1,none⟩ (.int .i64 0)).alloc (.cells #[.slice (some ⟨g,0,none⟩) ((dN s).words.length+1) cap,.pointer (some ⟨pb,0,none⟩)] 94))/\PgW W7.heap.size s (((W7.setCell ⟨w.heap.size,0,none⟩ (.int .i64 0)).setCell ⟨w.heap.size,1,none⟩ (.int .i64 0)).alloc (.cells #[.slice (some ⟨g,0,none⟩) ((dN s).words.length+1) cap,.pointer (some ⟨pb,0,none⟩)] 94))):=by
     have lz:((W7.setCell ⟨w.heap.size,0,none⟩ (.int .i64 0)).setCell ⟨w.heap.size,1,none⟩ (.int .i64 0)).heap.size=W7.heap.size:=by simp[World.setCell]
     refine⟨((bb7.setCell Ol _).setCell Ol _).alloc (by rw[lz];exact l7) _,_,g,cap,pb,t,vA,vF,vS,?_,P7.off g1 (fun i hi y6=>?_)⟩
     ·rw[g4.out,<-lz];exact Qb _ _
     ·exact(On (by rw[lz];exact hi)).trans (bCO i y6)
    have g2:(((W7.setCell ⟨w.heap.size,0,none⟩ (.int .i64 0)).setCell ⟨w.heap.size,1,none⟩ (.int .i64 0)).alloc (.cells #[.slice (some ⟨g,0,none⟩) ((dN s).words.length+1) cap,.pointer (some ⟨pb,0,none⟩)] 94)).heap[w.heap.size]?=some (.cells #[.int .i64 0,.int .i64 0] 37 (0,0)):=(On (by simp[World.setCell];omega)).trans (uU g1);obtain⟨x0,x1,_⟩:=iV g2;clear j2 d3 fr7 g7 d6 d7 h8 P7 e1 e2 bb6 bb7 g1 y9 g3 h5;go_wp2;refine bodyPost_ret (v:= .tuple #[.pointer (some ⟨W7.heap.size,0,none⟩),.agg #[.int .i64 0,.int .i64 0]]) (by simp[results,Tryz.results19,go_sem,x0,x1]) rfl ⟨FIN.out.1,.inr ⟨d9.out,_,rfl,FIN.out.2⟩⟩
   ·have k4:((fO t s.size).code !=0)=true:=by simpa using k7
    have HR:Hid _:=h4;have HC:Hid _:=k7;clear h4 k7 j3 y4 f1 f2 bb5 j7 h9 h3 bb4 y5 j4 z7 y1 z3 z8 z6 h2 hP h1 y2 k6 hc k8 y7 h6;generalize z5:(fO t s.size).code=c3 at*;generalize z4:(fO t s.size).pos=c4 at*;clear z5 z4;go_wp2_with fail
    generalize (W5.setCell ⟨W1.heap.size,0,none⟩ (.int .i64 c3)).setCell ⟨W1.heap.size,1,none⟩ (.int .i64 c4)=W6 at*;clear q0 q1 z0 p0 p1 z1;obtain⟨q0,q1,z0⟩:=iV e1;obtain⟨p0,p1,z1⟩:=iV e2;clear e1 e2;go_region
    all_goals go_wp2
    all_goals obtain⟨x0,x1⟩:=dQ (w:=W6) (u0:= .int .i64 c3) (u1:= .int .i64 c4) q0 q1
    all_goals (refine bodyPost_ret (v:= .tuple #[.pointer none,.agg #[.int .i64 c3,.int .i64 c4]]) (by simp[results,Tryz.results19,go_sem,x0,x1]) rfl ⟨?_,Or.inl ⟨?_,?_⟩⟩)
    all_goals first|(rw[HR.out];exact HC.out)|(rw[HR.out])|exact(Qm (p:=⟨w.heap.size,1,none⟩) (Qm (p:=⟨w.heap.size,0,none⟩) bb6 Ol _) Ol _).drew|exact Qm (p:=⟨w.heap.size,1,none⟩) (Qm (p:=⟨w.heap.size,0,none⟩) bb6.drew Ol _) Ol _
theorem aL1(s:ByteArray)(w:World)(hz:4000 < s.size)(hm:s.size<=maxLen):Calls Tryz.prog 19 #[.string s] w (aH1 s w):=by
 have sa:(w.alloc (.cells #[.int .i64 0,.int .i64 0] 37)).heap.size=w.heap.size+1:=Od
 have ba:Below w.heap.size w (w.alloc (.cells #[.int .i64 0,.int .i64 0] 37)):=(Below.refl _ _).alloc Ol _;have na:(w.alloc (.cells #[.int .i64 0,.int .i64 0] 37)).heap[w.heap.size]?=some (.cells #[.int .i64 0,.int .i64 0] 37 (0,0)):=Qb w _;have h0:eZ s=(1,0):=by unfold eZ;rw[if_pos hz]
 go_enter Tryz.func19,Tryz.ntmps19
 go_wp2_with fail
 generalize w.alloc (.cells #[.int .i64 0,.int .i64 0] 37)=Wa at*;refine(aP4 s Wa hz hm).mono ?_;rintro e W1 ⟨rfl,b1⟩;rw[sa]at b1;have l1:=b1.size;have n1:W1.heap[w.heap.size]?=some (.cells #[.int .i64 0,.int .i64 0] 37 (0,0)):=(b1.block _ Oa).trans na;have bb1:Below w.heap.size w W1:=ba.trans (b1.mono Oa);have k1:(W1.alloc (.cells #[.int .i64 1,.int .i64 0] 37)).heap[w.heap.size]?=some (.cells #[.int .i64 0,.int .i64 0] 37 (0,0)):=(On Oa).trans n1;have k2:(W1.alloc (.cells #[.int .i64 1,.int .i64 0] 37)).heap[W1.heap.size]?=some (.cells #[.int .i64 1,.int .i64 0] 37 (0,0)):=Qb _ _;have bb2:Below w.heap.size w (W1.alloc (.cells #[.int .i64 1,.int .i64 0] 37)):=bb1.alloc Oa _;have hne:w.heap.size≠W1.heap.size:=Oa
 go_wp2_with fail
 generalize W1.alloc (.cells #[.int .i64 1,.int .i64 0] 37)=W2 at*;obtain⟨q0,q1,z0⟩:=iV k1;obtain⟨p0,p1,z1⟩:=iV k2;have HR:Hid _:=h0;clear h0 ba b1 bb1 n1 na hz k1 k2;go_region
 all_goals go_wp2
 all_goals obtain⟨x0,x1⟩:=dQ (w:=W2) (u0:= .int .i64 1) (u1:= .int .i64 0) q0 q1
 all_goals (refine bodyPost_ret (v:= .tuple #[.pointer none,.agg #[.int .i64 1,.int .i64 0]]) (by simp[results,Tryz.results19,go_sem,x0,x1]) rfl ⟨?_,Or.inl ⟨?_,?_⟩⟩)
 all_goals first|(rw[HR.out];decide)|(rw[HR.out])|exact(Qm (p:=⟨w.heap.size,1,none⟩) (Qm (p:=⟨w.heap.size,0,none⟩) bb2 Ol _) Ol _).drew|exact Qm (p:=⟨w.heap.size,1,none⟩) (Qm (p:=⟨w.heap.size,0,none⟩) bb2.drew Ol _) Ol _
theorem aA6(s:ByteArray)(w:World)(ht:Tab w)(hm:s.size<=maxLen):Calls Tryz.prog 19 #[.string s] w (aH1 s w):=by
 rcases Qk 4000 s.size with h|h
 ·exact aL1 s w h hm
 ·exact aP0 s w ht h
theorem Pg0.next{H g cap pb:Nat}{s:ByteArray}{t:Tr}{vA vF vS:Value}{w w':World}(h:Pg0 H g cap pb s t vA vF vS w)(hw:∀ i,i < w.heap.size->w'.heap[i]?=w.heap[i]?):Pg0 H g cap pb s t vA vF vS w':=by
 have off:∀ {j:Nat} {c2:Array Value} {ty:TypeId},w.heap[j]?=some (.cells c2 ty (0,0))->w'.heap[j]?=w.heap[j]?:=fun hj=>hw _ (Oo hj);obtain⟨cur,hg,h0⟩:=h.toks.row;refine⟨⟨⟨cur,(off hg).trans hg,h0⟩,h.toks.cap_,h.toks.few,h.toks.pos,h.toks.last,h.toks.vals⟩,h.er,h.ge,(off h.prog).trans h.prog,cD h.arrs (fun j hj=>?_),⟨cD h.fns.row (fun j hj=>?_),fun e he=>?_⟩,cD h.sites (fun j hj=>?_),IsT.next hw h.is,h.fresh⟩
 ·obtain⟨⟨c,hc⟩,_⟩:=bEH h.arrs hj;exact off hc
 ·obtain⟨⟨c,hc⟩,_⟩:=bEH h.fns.row hj;exact off hc
 ·obtain⟨b,o,a,l,x,y,z,p,q,e1,e2,e3⟩:=h.fns.own e he;exact⟨b,o,a,l,x,y,z,p,q,e1,At.same e2 (hw _ (At.lt e2)),e3⟩
 ·obtain⟨⟨c,hc⟩,_⟩:=bEH h.sites hj;exact off hc
theorem PgW.next{ab:Nat}{s:ByteArray}{w w':World}(h:PgW ab s w)(hw:∀ i,i < w.heap.size->w'.heap[i]?=w.heap[i]?):PgW ab s w':=by
 obtain⟨H,g,cap,pb,t,vA,vF,vS,h1,h2⟩:=h.ex;exact⟨H,g,cap,pb,t,vA,vF,vS,(hw _ (Oo h1)).trans h1,h2.next hw⟩
structure Rn where
 arr:Nat->Int
 fuel:Nat
 calls:Nat
 fin:Int
 site:Int
 outs:List Int
def Rn.stop(r:Rn)(e:Int):Rn:=if r.fin=0 then {r with fin:=e}else r
def Rn.trap(r:Rn)(s:Int):Rn:=if r.fin=0 then {r with fin:=2,site:=s}else r
def Rn.burns(r:Rn):Bool:=decide (r.fuel≠0)&&decide (r.fin=0)
def Rn.burn(r:Rn):Rn:=if r.fuel=0 then r.stop 3 else if r.fin=0 then {r with fuel:=r.fuel - 1}else r
def Rn.out(r:Rn)(v:Int):Rn:=if r.fin=0 then {r with outs:=r.outs++[v]}else r
def upd(f:Nat->Int)(i:Nat)(v:Int):Nat->Int:=fun j=>if j=i then v else f j
def w64(v:Int):Int:=wrap64 v
def hd(l:List Int):Int:=l.headD 0
def rJ(op a b:Int):Int:=if op=27 then w64 (a+b)else if op=28 then w64 (a - b)else if op=29 then w64 (a*b)else if op=30 then w64 (a.tdiv b)else a.tmod b
def jV(op a b:Int):Bool:=if op=23 then decide (a < b)else if op=24 then decide (a<=b)else if op=25 then decide (b < a)else if op=26 then decide (b<=a)else if op=21 then decide (a=b)else decide (a≠b)
def fI(lens:Nat->Int)(k i:Int):Bool:=decide (0<=i)&&decide (i < lens k.toNat)
def gH(k i:Int):Nat:=k.toNat*64+i.toNat
abbrev Cl:=Int->List Int->Int->Rn->Int × Rn
def exW(lens:Nat->Int)(C:Cl)(vars:Nat->Int):Tr->Rn->List Int × Rn
 | .nil,r=>([],r)
 | .node _ _ a l q,r=>
  if a.tag=0 then([a.val],r)else if a.tag=1 then([vars a.which.toNat],r)
  else if a.tag=2 then
   (if fI lens a.which (hd (exW lens C vars l r).1)then([(exW lens C vars l r).2.arr (gH a.which (hd (exW lens C vars l r).1))],(exW lens C vars l r).2)else([0],(exW lens C vars l r).2.trap a.site))
  else if a.tag=3 then([(C a.which (exW lens C vars l r).1 a.site (exW lens C vars l r).2).1],(C a.which (exW lens C vars l r).1 a.site (exW lens C vars l r).2).2)
  else if a.tag=4\/a.tag=20 then exW lens C vars l r
  else if a.tag=5 then([w64 (-hd (exW lens C vars l r).1)],(exW lens C vars l r).2)
  else if a.tag=6 then
   (if 30<=a.op/\hd (exW lens C vars q (exW lens C vars l r).2).1=0 then([0],(exW lens C vars q (exW lens C vars l r).2).2.trap a.site)
    else([rJ a.op (hd (exW lens C vars l r).1) (hd (exW lens C vars q (exW lens C vars l r).2).1)],(exW lens C vars q (exW lens C vars l r).2).2))
  else if a.tag=15 then((exW lens C vars l r).1++(exW lens C vars q (exW lens C vars l r).2).1,(exW lens C vars q (exW lens C vars l r).2).2)
  else([],r)
def cdW(lens:Nat->Int)(C:Cl)(vars:Nat->Int):Tr->Rn->Bool × Rn
 | .nil,r=>(false,r)
 | .node _ _ a l q,r=>
  if a.tag=7 then(jV a.op (hd (exW lens C vars l r).1) (hd (exW lens C vars q (exW lens C vars l r).2).1),(exW lens C vars q (exW lens C vars l r).2).2)
  else if a.op=32 then(if(cdW lens C vars l r).1 then cdW lens C vars q (cdW lens C vars l r).2 else(false,(cdW lens C vars l r).2))
  else(if(cdW lens C vars l r).1 then(true,(cdW lens C vars l r).2)else cdW lens C vars q (cdW lens C vars l r).2)
structure Fm where
 on:Bool
 vars:Nat->Int
 value:Int
 run:Rn
def mC(c:Fm->Bool × Rn)(f:Fm->Fm):Nat->Fm->Fm
 |0,m=>m
 |n+1,m=>
  if m.run.burns then
   (if(c {m with run:=m.run.burn}).1 then
     (if(f {m with run:=(c {m with run:=m.run.burn}).2}).on then mC c f n (f {m with run:=(c {m with run:=m.run.burn}).2})else f {m with run:=(c {m with run:=m.run.burn}).2})
    else {m with run:=(c {m with run:=m.run.burn}).2})
  else {m with run:=m.run.burn}
def stW(lens:Nat->Int)(C:Cl):Tr->Fm->Fm
 | .nil,m=>m
 | .node _ _ a l q,m=>
  if a.tag=20\/a.tag=18 then stW lens C l m
  else if a.tag=15 then
   (if m.run.burns then(if(stW lens C l {m with run:=m.run.burn}).on then stW lens C q (stW lens C l {m with run:=m.run.burn})else stW lens C l {m with run:=m.run.burn})else {m with on:=false,run:=m.run.burn})
  else if a.tag=9 then {m with vars:=upd m.vars a.which.toNat (hd (exW lens C m.vars l m.run).1),run:=(exW lens C m.vars l m.run).2}
  else if a.tag=10 then
   (if fI lens a.which (hd (exW lens C m.vars l m.run).1)then
     {m with run:={(exW lens C m.vars q (exW lens C m.vars l m.run).2).2 with arr:=upd (exW lens C m.vars q (exW lens C m.vars l m.run).2).2.arr (gH a.which (hd (exW lens C m.vars l m.run).1)) (hd (exW lens C m.vars q (exW lens C m.vars l m.run).2).1)}}
    else {m with run:=(exW lens C m.vars q (exW lens C m.vars l m.run).2).2.trap a.site})
  else if a.tag=11 then
   (match q with
     | .node _ _ _ x y=>if(cdW lens C m.vars l m.run).1 then stW lens C x {m with run:=(cdW lens C m.vars l m.run).2}else stW lens C y {m with run:=(cdW lens C m.vars l m.run).2}
     | .nil=>m)
  else if a.tag=12 then mC (fun m=>cdW lens C m.vars l m.run) (stW lens C q) (m.run.fuel+1) m
  else if a.tag=13 then {m with on:=false,value:=hd (exW lens C m.vars l m.run).1,run:=(exW lens C m.vars l m.run).2}
  else if a.tag=14 then {m with run:=(exW lens C m.vars l m.run).2.out (hd (exW lens C m.vars l m.run).1)}
  else m
def tkW(vars:Nat->Int):Tr->Bool
 | .nil=>true
 | .node _ _ a e q=>if a.tag=20 then tkW vars e else(cdW (fun _=>0) (fun _ _ _ r=>(0,r)) vars e ⟨fun _=>0,0,0,0,0,[]⟩).1&&tkW vars q
def cI(l:List Int):Nat->Int:=fun i=>l.getD i 0
def aU:Tr->Tr
 | .node _ _ _ _ (.node _ _ _ p _)=>p
 |_=> .nil
def bG:Tr->Tr
 | .node _ _ _ _ (.node _ _ _ _ q)=>q
 |_=> .nil
def enW(B:Tr->Fm->Fm)(e:Tr)(vars:Nat->Int)(r:Rn):Int × Rn:=
 let r1:Rn:={(if r.calls=60 then r.stop 4 else r)with calls:=r.calls+1}
 if r1.burns then((B (bG e) ⟨true,vars,0,r1.burn⟩).value,{(B (bG e) ⟨true,vars,0,r1.burn⟩).run with calls:=(B (bG e) ⟨true,vars,0,r1.burn⟩).run.calls - 1})
 else(0,{r1.burn with calls:=r1.burn.calls - 1})
def clW(lens:Nat->Int)(fl:List Tr):Nat->Cl
 |0,k,l,s,r=>enW (fun _ m=>m) (fl.getD k.toNat .nil) (cI l) (if tkW (cI l) (aU (fl.getD k.toNat .nil))then r else r.trap s)
 |d+1,k,l,s,r=>enW (stW lens (clW lens fl d)) (fl.getD k.toNat .nil) (cI l) (if tkW (cI l) (aU (fl.getD k.toNat .nil))then r else r.trap s)
def bCG(al:List Tr)(k:Nat):Int:=match al[k]? with
 |some (.node _ _ a _ _)=>a.val
 |_=>0
structure Rs4 where
 fin:Int
 value:Int
 site:Int
 outs:List Int
def aTT(t:Tr)(m:Int)(args:List Int)(fuel:Int):Rs4:=
 let al:=aF 16 (bCF t)
 let fl:=aF 17 (bCF t)
 let main:=fl.getD m.toNat .nil
 let f:Nat:=(min (max fuel 0) 20000).toNat
 let r0:Rn:=⟨fun _=>0,f,0,0,-1,[]⟩
 if args.length≠gJ main\/tkW (cI args) (aU main)=false then⟨5,0,-1,[]⟩
 else
  let x:=enW (stW (bCG al) (clW (bCG al) fl f)) main (cI args) r0
  if x.2.fin=0 then⟨1,x.1,x.2.site,x.2.outs⟩else⟨x.2.fin,0,x.2.site,x.2.outs⟩
def kM(s:ByteArray)(args:List Int)(fuel:Int):Rs4:=aTT (aFH s) (qV (rdT s)) args fuel
end
section
open Go.RowKit Go.Lib Go.Deep
structure Gr(r r':Rn):Prop where
 fuel:r'.fuel<=r.fuel
 outs:r.outs <+:r'.outs
 dead:r.fin≠0->r'.fin=r.fin/\r'.outs=r.outs
 fin:r'.fin=r.fin\/r'.fin=2\/r'.fin=3\/r'.fin=4
theorem Gr.refl(r:Rn):Gr r r:=⟨Qc _,List.prefix_refl _,fun _=>⟨rfl,rfl⟩,.inl rfl⟩
theorem Gr.trans{a b c:Rn}(h:Gr a b)(k:Gr b c):Gr a c:=by
 refine⟨Qd k.fuel h.fuel,h.outs.trans k.outs,fun ha=>?_,?_⟩
 ·obtain⟨e1,e2⟩:=h.dead ha;obtain⟨e3,e4⟩:=k.dead (by rw[e1];exact ha);exact⟨e3.trans e1,e4.trans e2⟩
 ·rcases k.fin with e|e
  ·rw[e];exact h.fin
  ·exact .inr e
theorem Gr.stop(r:Rn){e:Int}(he:e=3\/e=4):Gr r (r.stop e):=by
 unfold Rn.stop
 split
 ·rename_i h;exact⟨Qc _,List.prefix_refl _,fun k=>absurd h k,by dsimp only;omega⟩
 ·exact Gr.refl _
theorem Gr.trap(r:Rn)(s:Int):Gr r (r.trap s):=by
 unfold Rn.trap
 split
 ·rename_i h;exact⟨Qc _,List.prefix_refl _,fun k=>absurd h k,.inr Ox⟩
 ·exact Gr.refl _
theorem Gr.burn(r:Rn):Gr r r.burn:=by
 unfold Rn.burn
 split
 ·exact Gr.stop _ Ox
 ·split
  ·exact⟨Nat.sub_le _ _,List.prefix_refl _,fun _=>⟨rfl,rfl⟩,.inl rfl⟩
  ·exact Gr.refl _
theorem Gr.out(r:Rn)(v:Int):Gr r (r.out v):=by
 unfold Rn.out
 split
 ·rename_i h;exact⟨Qc _,List.prefix_append _ _,fun k=>absurd h k,.inl rfl⟩
 ·exact Gr.refl _
theorem Gr.arr(r:Rn)(f:Nat->Int):Gr r {r with arr:=f}:=⟨Qc _,List.prefix_refl _,fun _=>⟨rfl,rfl⟩,.inl rfl⟩
theorem Gr.calls(r:Rn)(n:Nat):Gr r {r with calls:=n}:=⟨Qc _,List.prefix_refl _,fun _=>⟨rfl,rfl⟩,.inl rfl⟩
variable {lens:Nat->Int} {C:Cl} {vars:Nat->Int}
end
end Go.Proofs.YtikffmloeifkpaaGreatDoor
