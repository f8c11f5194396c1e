/- Contracts. -/
import Derived.Test.YtikffmloeifkpaaGreatDoorQ26
import Derived.Test.YtikffmloeifkpaaGreatDoorQ44
namespace Go.Proofs.YtikffmloeifkpaaGreatDoor
open Go.RowKit Go.Lib Go.Deep Go.Maps Go.ChangeMaps Go.MapKept
theorem bER(a:Nd):(epN a).tag=a.tag:=rfl
theorem bGQ(a:Nd):(epN a).op=a.op:=rfl
theorem bHX(a:Nd):(epN a).val=a.val:=rfl
theorem bEV(a:Nd):(epN a).which=a.which:=rfl
theorem bG2(a:Nd):(epN a).site=a.site:=rfl
section
variable {lens:Nat->Int} {C:Cl} {vars:Nat->Int} {fl al:List Tr}
theorem bFO:∀ (t:Tr) (r:Rn),exW lens C vars (ep t) r=exW lens C vars t r:=by
 intro t
 induction t with
 |nil=>intro r;rfl
 |node b o a l q ihl ihq=>intro r;simp only[ep,bER,bGQ,bHX,bEV,bG2,exW,ihl,ihq]
theorem bGS:∀ (t:Tr) (r:Rn),cdW lens C vars (ep t) r=cdW lens C vars t r:=by
 intro t
 induction t with
 |nil=>intro r;rfl
 |node b o a l q ihl ihq=>intro r;simp only[ep,bER,bGQ,cdW,bFO,ihl,ihq]
theorem bII:∀ (n:Nat) (t:Tr),szT t<=n->stW lens C (ep t)=stW lens C t:=by
 intro n
 induction n with
 |zero=>intro t h;cases t<;>simp[szT]at h
 |succ n ih=>
  intro t h0;cases t with
  |nil=>rfl
  |node b o a l q=>
   have hl:szT l<=n/\szT q<=n:=by simp only[szT]at h0;omega
   funext m
   have e1:=ih l hl.1;have e2:=ih q hl.2;cases q with
   |nil=>simp only[ep,bER,bEV,bG2,stW,bFO,bGS,e1]
   |node x y z p s=>
    have hs:szT p<=n/\szT s<=n:=by have:=hl.2;simp only[szT]at this;omega
    have e3:=ih p hs.1;have e4:=ih s hs.2;have ha:∀ (l' q':Tr),stW lens C (.node 0 0 (epN a) l' q') m=stW lens C (.node 0 0 a l' q') m:=fun l' q'=>by cases q'<;>rfl
    show stW lens C (.node 0 0 (epN a) (ep l) (ep (.node x y z p s))) m=_;rw[ha];show(if a.tag=20\/a.tag=18 then _ else _)=(if a.tag=20\/a.tag=18 then _ else _);rw[e1]
    split
    ·rfl
    split
    ·rw[e2]
    split
    ·rw[bFO]
    split
    ·simp only[bFO]
    split
    ·show(if(cdW lens C m.vars (ep l) m.run).1 then stW lens C (ep p) _ else stW lens C (ep s) _)=_;rw[e3,e4,bGS]
    split
    ·rw[e2];simp only[bGS]
    split
    ·rw[bFO]
    split
    ·rw[bFO]
    ·rfl
theorem bHF:∀ (t:Tr),tkW vars (ep t)=tkW vars t:=by
 intro t
 induction t with
 |nil=>rfl
 |node b o a l q ihl ihq=>simp only[ep,bER,tkW,bGS,ihl,ihq]
theorem bEZ(e:Tr):aU (ep e)=ep (aU e):=by
 cases e with
 |nil=>rfl
 |node b o a l q=>cases q<;>rfl
theorem bFR(e:Tr):bG (ep e)=ep (bG e):=by
 cases e with
 |nil=>rfl
 |node b o a l q=>cases q<;>rfl
theorem bGD:bCG (al.map ep)=bCG al:=by
 funext k
 unfold bCG;rw[List.getElem?_map];cases al[k]? with
 |none=>rfl
 |some e=>cases e<;>rfl
theorem bF2(j:Nat):(fl.map ep).getD j .nil=ep (fl.getD j .nil):=by
 rw[List.getD_eq_getElem?_getD,List.getD_eq_getElem?_getD,List.getElem?_map];cases fl[j]?<;>rfl
theorem bHN{Bs Bb:Tr->Fm->Fm}{e:Tr}(h:Bs (bG (ep e))=Bb (bG e)):enW Bs (ep e)=enW Bb e:=by
 funext vars r
 unfold enW;rw[h]
theorem bK1:∀ d,clW lens (fl.map ep) d=clW lens fl d:=by
 intro d
 induction d with
 |zero=>
  funext k l s r
  show enW _ ((fl.map ep).getD k.toNat .nil) (cI l) (if tkW (cI l) (aU ((fl.map ep).getD k.toNat .nil))then r else r.trap s)=_;rw[bF2,bEZ,bHF];rw[bHN (Bs:=fun _ m=>m) (Bb:=fun _ m=>m) rfl];rfl
 |succ d ih=>
  funext k l s r
  show enW (stW lens (clW lens (fl.map ep) d)) ((fl.map ep).getD k.toNat .nil) (cI l) (if tkW (cI l) (aU ((fl.map ep).getD k.toNat .nil))then r else r.trap s)=_;rw[bF2,bEZ,bHF,ih];rw[bHN (Bs:=stW lens (clW lens fl d)) (Bb:=stW lens (clW lens fl d)) (by rw[bFR];exact bII _ _ Ol)];rfl
theorem bF9(e:Tr):gJ (ep e)=gJ e:=by
 cases e with
 |nil=>rfl
 |node b o a l r=>exact bFA l
theorem bJ8(main:Tr)(args:List Int)(fuel:Int):nE (al.map ep) (fl.map ep) (ep main) args fuel=nE al fl main args fuel:=by
 unfold nE;rw[bF9,bEZ,bHF,bGD,bK1];rw[bHN (Bs:=stW (bCG al) (clW (bCG al) fl (min (max fuel 0) 20000).toNat)) (Bb:=stW (bCG al) (clW (bCG al) fl (min (max fuel 0) 20000).toNat)) (by rw[bFR];exact bII _ _ Ol)]
end
section
variable {lens:Nat->Int} {fl:List Tr} {alive:Bool} {vs:Vr}
theorem bHB(t:Tr):iK vs (ep t)=iK vs t:=by cases t<;>rfl
theorem bGV(t:Tr):cV (ep t)=cV t:=by
 induction t with
 |nil=>rfl
 |node b o a l q ihl _=>simp only[ep,bER,bEV,cV,ihl]<;>rfl
theorem bI8(t:Tr):eU vs (ep t)=eU vs t:=by
 induction t with
 |nil=>rfl
 |node b o a e q ihe ihq=>
  cases e with
  |nil=>
   simp only[ep,bER,eU]<;>rfl
  |node b2 o2 c x y=>
   simp only[ep]at ihe ihq ⊢;simp only[eU]at ihe ⊢;simp only[ihe,ihq,bHB]<;>rfl
theorem bFP(t:Tr):∀ F,exA lens (fl.map ep) alive vs (ep t) F=exA lens fl alive vs t F:=by
 induction t with
 |nil=>intro F;rfl
 |node b o a l q ihl ihq=>intro F;simp only[ep,bER,bGQ,bHX,bEV,bG2,exA,ihl,ihq,bF2,bEZ,bI8]<;>rfl
theorem bIX(t:Tr):∀ s F,cdA lens (fl.map ep) (ep t) s F=cdA lens fl t s F:=by
 induction t with
 |nil=>intro s F;rfl
 |node b o a l q ihl ihq=>intro s F;simp only[ep,bER,bGQ,cdA,bFP,bGV,ihl,ihq]<;>rfl
theorem bIK(t:Tr):dR (ep t)=dR t:=by
 funext i
 induction t with
 |nil=>rfl
 |node b o a l q ihl ihq=>simp only[ep,bER,bEV,dR,ihl,ihq]<;>rfl
theorem bI5(t:Tr):∀ s,eN (ep t) s=eN t s:=by
 induction t with
 |nil=>intro s;rfl
 |node b o a e q ihe ihq=>
  intro s;cases e with
  |nil=>
   simp only[ep,bER,eN]<;>rfl
  |node b2 o2 c x y=>
   simp only[ep]at ihe ihq ⊢;simp only[eN]at ihe ⊢;simp only[ihe,ihq,bHB,bGV]<;>rfl
theorem bJ5(L:List Tr)(b o:Nat)(a:Nd)(l q:Tr)(s:St)(F:Fl):stA lens L (.node b o (epN a) l q) s F=stA lens L (.node b o a l q) s F:=by cases q<;>rfl
theorem bJP:∀ (n:Nat) (t:Tr),szT t<=n->∀ s F,stA lens (fl.map ep) (ep t) s F=stA lens fl t s F:=by
 intro n
 induction n with
 |zero=>intro t h;cases t<;>simp[szT]at h
 |succ n ih=>
  intro t h0 s F;cases t with
  |nil=>rfl
  |node b o a l q=>
   have hl:szT l<=n/\szT q<=n:=by simp only[szT]at h0;omega
   show stA lens (fl.map ep) (.node 0 0 (epN a) (ep l) (ep q)) s F=_;rw[bJ5]
   by_cases t20:a.tag=20\/a.tag=18
   ·rw[qT t20,qT t20];exact ih l hl.1 s F
   by_cases t15:a.tag=15
   ·rw[sY t15,sY t15,ih l hl.1];exact ih q hl.2 _ _
   by_cases t9:a.tag=9
   ·rw[yF t9,yF t9,bFP]
   by_cases t10:a.tag=10
   ·rw[tD t10,tD t10,bFP,bFP]
   by_cases t11:a.tag=11
   ·cases q with
    |nil=>rw[xM t11];exact xM t11
    |node b2 o2 z x y=>
     have hs:szT x<=n/\szT y<=n:=by have:=hl.2;simp only[szT]at this;omega
     rw[aUW t11];show stA lens (fl.map ep) (.node 0 0 a (ep l) (.node 0 0 (epN z) (ep x) (ep y))) s F=_;rw[aUW t11,bIX,ih x hs.1,ih y hs.2]
   by_cases t12:a.tag=12
   ·rw[aUV t12,aUV t12,bIK];rw[show cdA lens (fl.map ep) (ep l)=cdA lens fl l from funext fun s=>funext fun F=>bIX l s F,show stA lens (fl.map ep) (ep q)=stA lens fl q from funext fun s=>funext fun F=>ih q hl.2 s F]
   by_cases t13:a.tag=13
   ·rw[aUU t13,aUU t13,bFP]
   by_cases t14:a.tag=14
   ·rw[sZ t14,sZ t14,bFP]
   ·rw[aBR ⟨Oa,Oa,t15,Oa⟩,aBR ⟨Oa,Oa,t15,Oa⟩]
theorem bK0(e:Tr)(F:Fl):fnA lens (fl.map ep) (ep e) F=fnA lens fl e F:=by
 unfold fnA;rw[bFR,bEZ,bF9,bJP _ _ Ol,bI5]
end
def SK(S S':Sl):Prop:=S.map Prod.fst=S'.map Prod.fst
theorem SK.len{S S':Sl}(h:SK S S'):S.length=S'.length:=by have:=congrArg List.length h;simpa using this
theorem SK.add{S S':Sl}(h:SK S S')(k p p':Int):SK (S++[(k,p)]) (S'++[(k,p')]):=by
 unfold SK at*;rw[List.map_append,List.map_append,h];rfl
section
variable {F:List Tr}
theorem bHS(k:Int):mG (F.map ep) k=mG F k:=by
 unfold mG;rw[List.getElem?_map];cases F[k.toNat]? with
 |none=>rfl
 |some e=>
  cases e with
  |nil=>rfl
  |node b o a l q=>
   cases q with
   |nil=>rfl
   |node x y z p s=>exact bFA p
theorem SK.pre{S S':Sl}(h:SK S S')(a:Nd):SK (bO (F.map ep) (epN a) S) (bO F a S'):=by
 unfold bO;rw[bER,bEV,bHS]
 split
 ·exact h.add _ _ _
 split
 ·exact h.add _ _ _
 split
 ·split
  ·exact h.add _ _ _
  ·exact h
 ·exact h
theorem SK.mid{S S':Sl}(h:SK S S')(a:Nd):SK (dE (epN a) S) (dE a S'):=by
 unfold dE;rw[bER,show vD (epN a)=vD a from rfl]
 split
 ·split
  ·exact h.add _ _ _
  ·exact h
 ·exact h
theorem SK.siR:∀ (t:Tr) {S S':Sl},SK S S'->SK (siR (F.map ep) (ep t) S) (siR F t S'):=by
 intro t
 induction t with
 |nil=>intro S S' h;exact h
 |node b o a l r ihl ihr=>intro S S' h;exact ihr ((ihl (h.pre a)).mid a)
theorem bJ7{S S' S1 S1':Sl}(h:SK S S')(h1:SK S1 S1')(a:Nd):gI (F.map ep) (epN a) S S1=gI F a S' S1':=by
 unfold gI;rw[bER,bEV,bHS,h.len,h1.len];rfl
theorem bJQ:∀ (t:Tr) {S S':Sl},SK S S'->siT (F.map ep) (ep t) S=ep (siT F t S'):=by
 intro t
 induction t with
 |nil=>intro S S' h;rfl
 |node b o a l r ihl ihr=>
  intro S S' h;have h1:=h.pre (F:=F) a;have h2:=SK.siR (F:=F) l h1;show BT.node 0 0 {epN a with site:=gI (F.map ep) (epN a) S (YtikffmloeifkpaaGreatDoor.siR (F.map ep) (ep l) (bO (F.map ep) (epN a) S))} (siT (F.map ep) (ep l) (bO (F.map ep) (epN a) S)) (siT (F.map ep) (ep r) (dE (epN a) (YtikffmloeifkpaaGreatDoor.siR (F.map ep) (ep l) (bO (F.map ep) (epN a) S))))=_;rw[bJ7 h h2,ihl h1,ihr (h2.mid a)];rfl
end
theorem bG1(t:Tr):cR (ep t)=(cR t).map ep:=by unfold cR;rw[bF8,bEQ,bFH]
theorem bGJ(t:Tr):siT (cR (ep t)) (dY (ep t)) []=ep (siT (cR t) (dY t) []):=by rw[bG1,bF8,bJQ _ rfl]
theorem bFJ(t:Tr):gG (ep t)=(gG t).map ep:=by unfold gG;rw[bGJ,bEQ,bFH]
theorem bJK(t:Tr):qO (ep t)=(qO t).map ep:=by unfold qO;rw[bGJ,bEQ,bFH]
theorem bGB(t:Tr):fN (ep t)=fN t:=by
 unfold fN;rw[bFJ,bJK,bGD,List.foldl_map];simp only[bK0]
theorem bHP(t:Tr)(args:List Int)(fuel:Int):aTT (siT (cR (ep t)) (dY (ep t)) []) (qV (ep t)) args fuel=aTT (siT (cR t) (dY t) []) (qV t) args fuel:=by
 rw[bGJ,bFG,aSD,aSD,bEQ,bFH,bFH,bF2,bJ8]
theorem bI7{s s':ByteArray}(hT:TsL (aW s) (aW s'))(hc:(dN s).code=0)(h3:(dN s').code=0)(hz:s.size<=4000)(hz':s'.size<=4000)(hr:(eZ s).1=0):
 (eZ s').1=0/\fN (rdT s)=fN (rdT s')/\SK (fS s) (fS s')/\qV (rdT s)=qV (rdT s')/\gJ (tK (rdT s))=gJ (tK (rdT s'))/\∀ args fuel,kM s args fuel=kM s' args fuel:=by
 obtain⟨p1,p2⟩:=bHH hT;have p2:ep (rdT s)=ep (rdT s'):=p2;obtain⟨q1,q2,q3⟩:=bIM p2 s.size s'.size
 have hk:SK (fS s) (fS s'):=by
  have h1:=SK.siR (F:=cR (rdT s)) (dY (rdT s)) (S:=[]) (S':=[]) rfl;have h2:=SK.siR (F:=cR (rdT s')) (dY (rdT s')) (S:=[]) (S':=[]) rfl;rw[<-bG1,<-bF8,p2,bG1,bF8]at h1;exact Eq.trans (Eq.symm h1) h2
 refine⟨?_,by rw[<-bGB,p2,bGB],hk,q3,?_,fun args fuel=>?_⟩
 ·unfold eZ at hr ⊢;rw[Oh,if_neg (by rw[hc];simp)]at hr;rw[Oh,if_neg (by rw[h3];simp),<-p1]
  by_cases h0:(bP (aW s)).1.code≠0
  ·rw[if_pos h0]at hr;exact absurd hr h0
  ·rw[if_neg h0]at hr ⊢;exact q1.symm.trans hr
 ·have e:ep (tK (rdT s))=ep (tK (rdT s')):=by
   unfold tK;rw[q3,<-bF2,<-bF2,<-bFJ,<-bFJ,p2]
  rw[<-bF9,e,bF9]
 ·unfold kM aFH;rw[<-bHP,p2,bHP]
end Go.Proofs.YtikffmloeifkpaaGreatDoor
