/- Contracts. -/
import Derived.Test.YtikffmloeifkpaaGreatDoorM37
import Derived.Test.YtikffmloeifkpaaGreatDoorM24
import Derived.Test.YtikffmloeifkpaaGreatDoorM30
namespace Go.Proofs.YtikffmloeifkpaaGreatDoor
open Go.RowKit Go.Lib Go.Deep Go.Maps Go.ChangeMaps Go.MapKept
variable {s:ByteArray} {t:Tr}
theorem aCX{F:List Tr}(e:Tr)(S:Sl):aD (aU (siT F e S))=aD (aU e):=by
 cases e with
 |nil=>rfl
 |node b o a l r=>
  cases r with
  |nil=>rfl
  |node x y z p q=>exact yV p _
theorem oC.idx(h:oC s t)(j:Nat):(gG t)[j]?=none/\(cR t)[j]?=none\/∃ e0 S',(cR t)[j]?=some e0/\(gG t)[j]?=some (siT (cR t) e0 S'):=by
 obtain⟨f,hf⟩:=yX (F:=cR t) 17 (aB (dY t)) [] h.si;unfold gG;rw[h.el,hf,List.getElem?_map,List.getElem?_zipIdx];show(Option.map _ (Option.map _ (cR t)[j]?)=none/\_)\/_;cases he:(cR t)[j]? with
 |none=>exact .inl ⟨rfl,rfl⟩
 |some e0=>
  have h0:(aF 17 (aB (dY t)))[j]?=some e0:=he;exact .inr ⟨e0,f (0+j),rfl,by rw[h0];rfl⟩
theorem tZ.kind{fl:List Tr}{k:Nat}:∀ {L:Tr},tZ fl L->∀ e∈aF k L,tZ fl e:=by
 intro L
 induction L with
 |nil=>intro _ e he;cases he
 |node b o a x r _ ih=>
  intro h e he
  by_cases hk:bN x=k
  ·rw[show aF k (.node b o a x r)=x::aF k r from if_pos hk]at he;rcases List.mem_cons.1 he with rfl|he
   ·exact h.1
   ·exact ih h.2.1 e he
  ·rw[show aF k (.node b o a x r)=aF k r from if_neg hk]at he;exact ih h.2.1 e he
theorem tZ.body{fl:List Tr}{e:Tr}(h:tZ fl e):tZ fl (bG e):=by
 cases e with
 |nil=>exact h
 |node b o a l r=>
  cases r with
  |nil=>trivial
  |node x y z p q=>exact h.2.1.2.1
theorem oC.fns(h:oC s t){Fg:Fl}(h7:∀ k:Nat,k < (siR (cR t) (dY t) []).length->Fg k=fN t k):∀ e∈gG t,FnS (mI t) (oU t) (aA (qO t)) (gG t) Fg e:=by
 intro e he;obtain⟨f1,f2,f3,f4⟩:=h.flok.fns e he;have h8:=(lM h.ws).1;obtain⟨h5,_⟩:=aDN (F0:=cR t) (dY t) 8 [] h8
 have h3:(bE (aB (siT (cR t) (dY t) []))).Nodup:=by
  cases hT:siT (cR t) (dY t) []with
  |nil=>exact List.nodup_nil
  |node b o a l r=>rw[hT]at h5;exact(fU h5).1
 have h6:=yW 17 _ h3
 have h4:tZ (gG t) (siT (cR t) (dY t) []):=by
  refine aTS (F0:=cR t) (fl':=gG t) (fun k=>?_) (fun k hk=>?_) _ _
  ·rw[List.getD_eq_getElem?_getD];cases hi:(gG t)[k.toNat]? with
   |none=>exact .inr (.inr (.inr (.inl rfl)))
   |some e'=>exact(h.flok.fns e' (List.mem_of_getElem? hi)).1
  ·rw[List.getD_eq_getElem?_getD];rcases h.idx k.toNat with⟨h1,_⟩|⟨e0,S',h1,h2⟩
   ·rw[h1];rfl
   ·rw[h2];show aD (aU (siT (cR t) e0 S'))=0;rw[aCX];unfold mG at hk;rw[h1]at hk;cases e0 with
    |nil=>rfl
    |node b o a l r=>
     cases r with
     |nil=>rfl
     |node x y z p q=>exact hk
 have h0:tZ (gG t) (aB (siT (cR t) (dY t) [])):=by
  cases hT:siT (cR t) (dY t) []with
  |nil=>trivial
  |node b o a l r=>rw[hT]at h4;exact h4.1
 refine⟨f2,f1,f4,f3,(h0.kind e he).body,aGV (h6.2 e he).1,?_⟩;obtain⟨F1,h1⟩:=aKD (lens:=aA (qO t)) (fl:=gG t) (gG t) (fun _=>false) h6.1 e he;refine⟨F1,fun k hk=>?_⟩;obtain⟨j,rfl,hj⟩:=aHD h he k hk;rw[h7 j hj];exact h1 j hk
theorem oC.pars(h:oC s t)(j n:Nat)(hj:mI t j=some n):∃ e,(gG t)[j]?=some e/\gJ e=n:=by
 have h0:((aF 17 (aB (dY t))).map gJ)[j]?=some n:=by rw[h.ok.par];exact hj
 rw[List.getElem?_map]at h0;rcases h.idx j with⟨_,h1⟩|⟨e0,S',h1,h2⟩
 ·unfold cR at h1;rw[h1]at h0;cases h0
 ·unfold cR at h1;rw[h1]at h0;simp only[Option.map_some,Option.some.injEq]at h0;exact⟨_,h2,by rw[yR];exact h0⟩
theorem aPG(he:er t=rdT s)(hc:(eZ s).1=0){args:List Int}(ha:I6 args)(fuel:Int):
 ((kM s args fuel).fin=2->∃ k:Nat,(kM s args fuel).site=k/\k < (siR (cR t) (dY t) []).length/\fN t k=false)/\((kM s args fuel).fin≠2->(kM s args fuel).site= -1):=by
 have hg:=good he hc;obtain⟨j,hj,hm⟩:=hg.main;rw[aH3 he];have hR:=aJ8 (al:=qO t) (fl:=gG t) (Fg:=fun k=>if 0<=k/\k < ((siR (cR t) (dY t) []).length:Int)then fN t k else true) hg.pars (hg.fns fun k hk=>if_pos ⟨by omega,by omega⟩) (List.mem_of_getElem? hm) ha fuel;refine⟨fun h=>?_,hR.2⟩;have h1:=hR.1 h;have h2:(if 0<=(nE (qO t) (gG t) (tK t) args fuel).site/\(nE (qO t) (gG t) (tK t) args fuel).site < ((siR (cR t) (dY t) []).length:Int)then fN t (nE (qO t) (gG t) (tK t) args fuel).site else true)=false:=h1;show ∃ k:Nat,(nE (qO t) (gG t) (tK t) args fuel).site=k/\_;generalize (nE (qO t) (gG t) (tK t) args fuel).site=z at h2 ⊢
 split at h2
 ·rename_i hz;refine⟨z.toNat,by omega,by omega,?_⟩;rw[show((z.toNat:Nat):Int)=z by omega];exact h2
 ·cases h2
end Go.Proofs.YtikffmloeifkpaaGreatDoor
namespace Go.Proofs.YtikffmloeifkpaaGreatDoor
open Go.RowKit Go.Lib Go.Deep Go.Maps Go.ChangeMaps Go.MapKept
variable {lens:Nat->Int} {fl:List Tr} {alive:Bool} {vs:Vr}
theorem aF7(t:Tr):iK vs (er t)=iK vs t:=by cases t<;>rfl
theorem aDH(t:Tr):cV (er t)=cV t:=by
 induction t with
 |nil=>rfl
 |node b o a l q ihl _=>simp only[er,cV,ihl]
theorem aIR(t:Tr):eU vs (er t)=eU vs t:=by
 induction t with
 |nil=>rfl
 |node b o a e q ihe ihq=>
  cases e with
  |nil=>
   simp only[er,eU]
  |node b2 o2 c x y=>
   simp only[er]at ihe ihq ⊢;simp only[eU]at ihe ⊢;simp only[ihe,ihq,aF7]
theorem wL(t:Tr):∀ F,exA lens (fl.map er) alive vs (er t) F=exA lens fl alive vs t F:=by
 induction t with
 |nil=>intro F;rfl
 |node b o a l q ihl ihq=>intro F;simp only[er,exA,ihl,ihq,xS,mT,aIR]
theorem aON(t:Tr):∀ s F,cdA lens (fl.map er) (er t) s F=cdA lens fl t s F:=by
 induction t with
 |nil=>intro s F;rfl
 |node b o a l q ihl ihq=>intro s F;simp only[er,cdA,wL,aDH,ihl,ihq]
theorem aMK(t:Tr):dR (er t)=dR t:=by
 funext i
 induction t with
 |nil=>rfl
 |node b o a l q ihl ihq=>simp only[er,dR,ihl,ihq]
theorem aIL(t:Tr):∀ s,eN (er t) s=eN t s:=by
 induction t with
 |nil=>intro s;rfl
 |node b o a e q ihe ihq=>
  intro s;cases e with
  |nil=>
   simp only[er,eN]
  |node b2 o2 c x y=>
   simp only[er]at ihe ihq ⊢;simp only[eN]at ihe ⊢;simp only[ihe,ihq,aF7,aDH]
theorem aSA:∀ (n:Nat) (t:Tr),szT t<=n->∀ s F,stA lens (fl.map er) (er t) s F=stA lens fl t s F:=by
 intro n
 induction n with
 |zero=>intro t h;cases t<;>simp[szT]at h
 |succ n ih=>
  intro t h0 s F;cases t with
  |nil=>rfl
  |node b o a l q=>
   have hl:szT l<=n/\szT q<=n:=by simp only[szT]at h0;omega
   show stA lens (fl.map er) (.node 0 0 a (er l) (er q)) s F=_
   by_cases t20:a.tag=20\/a.tag=18
   ·rw[qT t20,qT t20];exact ih l hl.1 s F
   by_cases t15:a.tag=15
   ·rw[sY t15,sY t15,ih l hl.1];exact ih q hl.2 _ _
   by_cases t9:a.tag=9
   ·rw[yF t9,yF t9,wL]
   by_cases t10:a.tag=10
   ·rw[tD t10,tD t10,wL,wL]
   by_cases t11:a.tag=11
   ·cases q with
    |nil=>rw[xM t11];exact xM t11
    |node b2 o2 z x y=>
     have hs:szT x<=n/\szT y<=n:=by have:=hl.2;simp only[szT]at this;omega
     rw[tC t11];show stA lens (fl.map er) (.node 0 0 a (er l) (.node 0 0 z (er x) (er y))) s F=_;rw[tC t11,aON,ih x hs.1,ih y hs.2]
   by_cases t12:a.tag=12
   ·rw[tB t12,tB t12,aMK];rw[show cdA lens (fl.map er) (er l)=cdA lens fl l from funext fun s=>funext fun F=>aON l s F,show stA lens (fl.map er) (er q)=stA lens fl q from funext fun s=>funext fun F=>ih q hl.2 s F]
   by_cases t13:a.tag=13
   ·rw[tA t13,tA t13,wL]
   by_cases t14:a.tag=14
   ·rw[sZ t14,sZ t14,wL]
   ·rw[aBR ⟨by omega,by omega,t15,by omega⟩,aBR ⟨by omega,by omega,t15,by omega⟩]
theorem aSZ(e:Tr)(F:Fl):fnA lens (fl.map er) (er e) F=fnA lens fl e F:=by
 unfold fnA;rw[wP,mT,aHW,aSA _ _ (Nat.le_refl _),aIL]
theorem aQV(t:Tr):gG (er t)=(gG t).map er:=by unfold gG;rw[uX,uJ,aFR,aFS,gT,uP]
theorem aRE(t:Tr):qO (er t)=(qO t).map er:=by unfold qO;rw[uX,uJ,aFR,aFS,gT,uP]
theorem aIT(t:Tr):fN (er t)=fN t:=by
 unfold fN;rw[aQV,aRE,aB1,List.foldl_map];simp only[aSZ]
theorem yH{s:ByteArray}{t:Tr}(h:er t=rdT s):siR (cR t) (dY t) []=fS s/\fN t=fN (rdT s):=by
 refine⟨?_,by rw[<-h,aIT]⟩;unfold fS;rw[<-h,uX,uJ,aMI,aMJ]
end Go.Proofs.YtikffmloeifkpaaGreatDoor
namespace Go.Proofs.YtikffmloeifkpaaGreatDoor
open Go.RowKit Go.Lib Go.Deep Go.Maps Go.ChangeMaps Go.MapKept
theorem aJ5(F:List Tr)(a:Nd)(S:Sl):∃ M:Sl,bO F a S=S++M/\(∀ x∈M,1<=x.1/\x.1<=4)/\(M=[]\/a.tag≠6/\eO a.tag=true/\M.map Prod.snd=[a.npos]):=by
 unfold bO
 by_cases h2:a.tag=2
 ·rw[if_pos h2];exact⟨[(1,a.npos)],rfl,fun x hx=>by rw[List.mem_singleton.1 hx];exact⟨by dsimp only;omega,by dsimp only;omega⟩,.inr ⟨by omega,by rw[h2];rfl,rfl⟩⟩
 rw[if_neg h2]
 by_cases h0:a.tag=10
 ·rw[if_pos h0];exact⟨[(2,a.npos)],rfl,fun x hx=>by rw[List.mem_singleton.1 hx];exact⟨by dsimp only;omega,by dsimp only;omega⟩,.inr ⟨by omega,by rw[h0];rfl,rfl⟩⟩
 rw[if_neg h0]
 by_cases h3:a.tag=3
 ·rw[if_pos h3]
  split
  ·exact⟨[(4,a.npos)],rfl,fun x hx=>by rw[List.mem_singleton.1 hx];exact⟨by dsimp only;omega,by dsimp only;omega⟩,.inr ⟨by omega,by rw[h3];rfl,rfl⟩⟩
  ·exact⟨[],(List.append_nil S).symm,(fun x hx=>by cases hx),.inl rfl⟩
 ·rw[if_neg h3];exact⟨[],(List.append_nil S).symm,(fun x hx=>by cases hx),.inl rfl⟩
theorem aJ7(a:Nd)(S:Sl):∃ M:Sl,dE a S=S++M/\(∀ x∈M,1<=x.1/\x.1<=4)/\(M=[]\/a.tag=6/\M.map Prod.snd=[a.pos]):=by
 unfold dE
 split
 ·rename_i h6
  split
  ·exact⟨[(3,a.pos)],rfl,fun x hx=>by rw[List.mem_singleton.1 hx];exact⟨by dsimp only;omega,by dsimp only;omega⟩,.inr ⟨h6,rfl⟩⟩
  ·exact⟨[],(List.append_nil S).symm,(fun x hx=>by cases hx),.inl rfl⟩
 ·exact⟨[],(List.append_nil S).symm,(fun x hx=>by cases hx),.inl rfl⟩
theorem aPZ(F:List Tr):∀ (t:Tr) (S:Sl),∃ M:Sl,siR F t S=S++M/\(∀ x∈M,1<=x.1/\x.1<=4)/\(M.map Prod.snd).Sublist (ps t):=by
 intro t
 induction t with
 |nil=>intro S;exact⟨[],(List.append_nil S).symm,(fun x hx=>by cases hx),.slnil⟩
 |node b o a l r ihl ihr=>
  intro S;obtain⟨M1,e1,k1,p1⟩:=aJ5 F a S;obtain⟨M2,e2,k2,p2⟩:=ihl (bO F a S);obtain⟨M3,e3,k3,p3⟩:=aJ7 a (siR F l (bO F a S));obtain⟨M4,e4,k4,p4⟩:=ihr (dE a (siR F l (bO F a S)));refine⟨M1++M2++M3++M4,?_,fun x hx=>?_,?_⟩
  ·show siR F r (dE a (siR F l (bO F a S)))=_;rw[e4,e3,e2,e1];simp only[List.append_assoc]
  ·simp only[List.mem_append]at hx;rcases hx with((hx|hx)|hx)|hx
   ·exact k1 x hx
   ·exact k2 x hx
   ·exact k3 x hx
   ·exact k4 x hx
  ·show List.Sublist _ (if a.tag=6 then ps l++a.pos::ps r else if eO a.tag then a.npos::(ps l++ps r)else ps l++ps r);simp only[List.map_append]
   by_cases h6:a.tag=6
   ·rw[if_pos h6]
    have m1:M1=[]:=by
     rcases p1 with h|h
     ·exact h
     ·exact absurd h6 h.1
    subst m1;simp only[List.map_nil,List.nil_append,List.append_assoc];refine p2.append ?_;rcases p3 with rfl|⟨_,h⟩
    ·exact List.Sublist.cons _ p4
    ·rw[h];exact List.Sublist.cons_cons _ p4
   ·rw[if_neg h6]
    have m3:M3=[]:=by
     rcases p3 with h|h
     ·exact h
     ·exact absurd h.1 h6
    subst m3;simp only[List.map_nil,List.append_nil,List.append_assoc];rcases p1 with rfl|⟨_,hn,h⟩
    ·simp only[List.map_nil,List.nil_append]
     split
     ·exact List.Sublist.cons _ (p2.append p4)
     ·exact p2.append p4
    ·rw[if_pos hn,h];exact List.Sublist.cons_cons _ (p2.append p4)
theorem aTW{s:ByteArray}(hc:(eZ s).1=0):(ps (rdT s)).Pairwise (·< ·)/\∀ x∈ps (rdT s),0<=x/\x < (s.size:Int):=by
 obtain⟨h4,h1,h2⟩:=aHK hc;have h0:=mV h1 (by omega);have he:=lI s;have hp:0 < (aW s).length:=by simp[aW]
 have hg:=gF he (bY (aW s)) 6;obtain⟨_,h5,h6⟩:=mB h0 he hg (pH h0 he (bY (aW s)) 6) (bY (aW s)) (bY (aW s)) rd0 hp h2;have hln:=uN h0 he hg (pH h0 he (bY (aW s)) 6) (bY (aW s)) (bY (aW s)) rd0 hp h2;have hlt:=(oV h0 he hg (bY (aW s)) (bY (aW s)) rd0 hp).lt;have hfw:=h0.few;obtain⟨_,m2⟩:=rV (s:=8) (by omega) h5 (by omega);have h9:ps (rdT s)=ps (aJ (aW s) (iH (aW s) (bY (aW s)) 6) (bY (aW s)) (bY (aW s)) rd0).2:=m2;rw[h9];generalize (aJ (aW s) (iH (aW s) (bY (aW s)) 6) (bY (aW s)) (bY (aW s)) rd0)=y at*;obtain⟨_,ix,e,h8,hb⟩:=h6;rw[e];have hu:=aBN h1;have hw:=aGP s h1;have hT:(aW s).length=(dN s).words.length+1:=by simp[aW]
 have et:∀ k (hk:k < (aW s).length),dD (aW s) k=(aW s)[k]:=fun k hk=>by simp[dD,List.getD,List.getElem?_eq_getElem hk]
 refine⟨?_,fun x hx=>?_⟩
 ·rw[List.pairwise_map];refine h8.imp_of_mem fun {a b} _ k0 k1=>?_;have hj:b < (aW s).length:=by have:=(hb b k0).2;omega
  have hi:a < (aW s).length:=by omega
  have h7:=List.pairwise_iff_getElem.1 hu a b (by rw[List.length_map];exact hi) (by rw[List.length_map];exact hj) k1;rw[List.getElem_map,List.getElem_map]at h7;rw[et a hi,et b hj];exact h7
 ·obtain⟨k,hk,rfl⟩:=List.mem_map.1 hx;have hk2:=(hb k hk).2;have h3:k < (dN s).words.length:=by omega
  have e1:dD (aW s) k=(dN s).words[k]:=by
   rw[et k (by omega)];simp only[aW];rw[List.getElem_append_left h3]
  show 0<=(dD (aW s) k).pos/\(dD (aW s) k).pos < _;rw[e1];exact hw.lt _ (List.getElem_mem h3)
theorem aU3(t:Tr):er (er t)=er t:=by
 induction t with
 |nil=>rfl
 |node b o a l r ihl ihr=>simp only[er,ihl,ihr]
theorem aME{s:ByteArray}{t:Tr}(he:er t=rdT s)(hc:(eZ s).1=0):(∀ x∈fS s,(1<=x.1/\x.1<=4)/\0<=x.2/\x.2 < (s.size:Int))/\((fS s).map Prod.snd).Pairwise (·< ·):=by
 have hg:=good (s:=s) (t:=rdT s) (by rw[<-he,aU3]) hc;obtain⟨M,e,hk,hs⟩:=aPZ (cR (rdT s)) (dY (rdT s)) [];obtain⟨h1,h2⟩:=aTW hc;rw[(lM hg.ws).2.1]at hs;have eM:fS s=M:=e;rw[eM];exact⟨fun x hx=>⟨hk x hx,h2 _ (hs.subset (List.mem_map_of_mem hx))⟩,h1.sublist hs⟩
def knT:ByteArray:={data:=([102,110,32,109,97,105,110,40,110,41,32,123,32,105,102,32,110,32,33,61,32,48,32,38,38,32,110,32,62,32,48,32].append [123,32,114,101,116,117,114,110,32,56,32,47,32,110,59,32,125,32,114,101,116,117,114,110,32,56,32,47,32,110,59,32,125]).toArray}
theorem aI0:eZ knT=(0,0):=by decide+kernel
theorem aSO:(fS knT).length=2:=by decide+kernel
theorem aUD:fN (rdT knT) 0=true:=by decide+kernel
theorem aUC:fN (rdT knT) 1=false:=by decide+kernel
theorem tY{ab:Nat}{s:ByteArray}{w:World}(h:PgW ab s w)(hc:(eZ s).1=0):Calls Tryz.prog 27 #[.pointer (some ⟨ab,0,none⟩)] w fun e w'=>∃ v,e= .returned v/\FlW w.heap.size v (fS s) (fN (rdT s)) w'/\Below w.heap.size w w':=by
 refine(aL0 h hc).mono ?_;rintro e w' ⟨v,t,he,rfl,hf,hb⟩;obtain⟨e1,e2⟩:=yH he;rw[e1,e2]at hf;exact⟨v,rfl,hf,hb⟩
theorem FlW.row{H:Nat}{v:Value}{S:Sl}{F:Fl}{w:World}(h:FlW H v S F w)(hn:0 < S.length):∃ g cp,v= .slice (some ⟨g,0,none⟩) S.length cp/\H<=g/\g < w.heap.size/\∀ i (hi:i < S.length),w.cell? ⟨g,i*3,none⟩=some (.int .i64 S[i].1)/\w.cell? ⟨g,i*3+1,none⟩=some (.int .i64 S[i].2)/\w.cell? ⟨g,i*3+2,none⟩=some (.bool (F i)):=by
 rcases h.ex with⟨rfl,_⟩|⟨g,cp,cur,h1,h2,h3,h4⟩
 ·exact absurd hn (by simp)
 ·refine⟨g,cp,h1,h2,(Array.getElem?_eq_some_iff.1 h3).1,fun i hi=>?_⟩;obtain⟨e1,e2,e3⟩:=h4 i hi;exact⟨by rw[cell_of_row _ _ _ _ _ _ h3];exact e1,by rw[cell_of_row _ _ _ _ _ _ h3];exact e2,by rw[cell_of_row _ _ _ _ _ _ h3];exact e3⟩
theorem FlW.next{H:Nat}{v:Value}{S:Sl}{F:Fl}{w w':World}(h:FlW H v S F w)(hw:∀ i,i < w.heap.size->w'.heap[i]?=w.heap[i]?):FlW H v S F w':=h.same fun k _ hk=>hw k (Array.getElem?_eq_some_iff.1 hk).1
theorem aR3(a b:Int)(x:Bool)(n:Nat)(w:World):(Op.equalIn (n+2) 55 (.agg #[.int .i64 a,.int .i64 b,.bool x]) (.agg #[.int .i64 a,.int .i64 b,.bool x])).run Tryz.prog w= .ok true w:=by
 have hs:Tryz.prog.stoodInHeld 55=false:=by kernel_rfl
 have hf:Tryz.prog.underlying 55=some (.struct (Tryz.prog.fieldsOf 55)):=by kernel_rfl
 rw[run_equalIn_struct w (n+1) 55 _ _ hf hs];have n1:(Tryz.prog.fieldsOf 55).toList.map (·.name)=["Kind","At","Sure"]:=by kernel_rfl
 have n2:(Tryz.prog.fieldsOf 55).toList.map (·.type)=[3,3,4]:=by kernel_rfl
 have n3:(Tryz.prog.fieldsOf 55).toList.map (·.offset)=[0,1,2]:=by kernel_rfl
 generalize (Tryz.prog.fieldsOf 55).toList=L at n1 n2 n3 ⊢
 obtain⟨u,v,z,rfl⟩:∃ u v z,L=[u,v,z]:=by
  have hl:L.length=3:=by simpa using congrArg List.length n1
  match L,hl with
  |[u,v,z],_=>exact⟨u,v,z,rfl⟩
 simp only[List.map_cons,List.map_nil,List.cons.injEq,and_true]at n1 n2 n3;obtain⟨e1,e2,e3⟩:=n1;obtain⟨e4,e5,e6⟩:=n2;obtain⟨e7,e8,e9⟩:=n3;have p1:∀ w:World,(part 3 #[.int .i64 a,.int .i64 b,.bool x] 0).run Tryz.prog w= .ok (.int .i64 a) w:=fun w=>by kernel_rfl
 have p2:∀ w:World,(part 3 #[.int .i64 a,.int .i64 b,.bool x] 1).run Tryz.prog w= .ok (.int .i64 b) w:=fun w=>by kernel_rfl
 have p3:∀ w:World,(part 4 #[.int .i64 a,.int .i64 b,.bool x] 2).run Tryz.prog w= .ok (.bool x) w:=fun w=>by kernel_rfl
 have q:∀ (u v:Int) (w:World),(Op.equalIn (n+1) 3 (.int .i64 u) (.int .i64 v)).run Tryz.prog w= .ok (u==v) w:=fun u v w=>run_equalIn_int w n _ _ _ u v Tryz.underlying3;have q2:∀ (w:World),(Op.equalIn (n+1) 4 (.bool x) (.bool x)).run Tryz.prog w= .ok true w:=fun w=>by cases x<;>simp[Op.equalIn]
 simp only[Op.eqFields,e1,e2,e3,e4,e5,e6,e7,e8,e9];simp[p1,p2,p3,q,q2,Result.andThen]
theorem aND(a b:Int)(x:Bool)(w:World):(binOp .neq 55 (.agg #[.int .i64 a,.int .i64 b,.bool x]) (.agg #[.int .i64 a,.int .i64 b,.bool x])).run Tryz.prog w= .ok (.bool false) w:=by
 have h2:=run_neq_struct (P:=Tryz.prog) w 55 #[.int .i64 a,.int .i64 b,.bool x] #[.int .i64 a,.int .i64 b,.bool x];rw[h2];have h3:(Op.equalIn 10000 55 (.agg #[.int .i64 a,.int .i64 b,.bool x]) (.agg #[.int .i64 a,.int .i64 b,.bool x])).run Tryz.prog w=_:=aR3 a b x 9998 w;rw[h3];rfl
end Go.Proofs.YtikffmloeifkpaaGreatDoor
