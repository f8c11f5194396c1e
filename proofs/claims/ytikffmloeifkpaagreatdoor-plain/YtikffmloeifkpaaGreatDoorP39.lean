/- Contracts. -/
import Derived.Test.YtikffmloeifkpaaGreatDoorP38
import Derived.Test.YtikffmloeifkpaaGreatDoorP24
import Derived.Test.YtikffmloeifkpaaGreatDoorP31
import Derived.Test.YtikffmloeifkpaaGreatDoorP26
namespace Go.Proofs.YtikffmloeifkpaaGreatDoor
open Go.RowKit Go.Lib Go.Deep Go.Maps Go.ChangeMaps Go.MapKept
variable {s:ByteArray} {t:Tr}
theorem aCX{F:List Tr}(e:Tr)(S:Sl):aD (aU (siT F e S))=aD (aU e):=by
 cases e with
 |nil=>rfl
 |node b o a l r=>
  cases r with
  |nil=>rfl
  |node x y z p q=>exact yV p _
theorem oC.idx(h:oC s t)(j:Nat):(gG t)[j]?=none/\(cR t)[j]?=none\/∃ e0 S',(cR t)[j]?=some e0/\(gG t)[j]?=some (siT (cR t) e0 S'):=by
 obtain⟨f,hf⟩:=yX (F:=cR t) 17 (aB (dY t)) [] h.si;unfold gG;rw[h.el,hf,List.getElem?_map,List.getElem?_zipIdx];show(Option.map _ (Option.map _ (cR t)[j]?)=none/\_)\/_;cases he:(cR t)[j]? with
 |none=>exact .inl ⟨rfl,rfl⟩
 |some e0=>
  have h0:(aF 17 (aB (dY t)))[j]?=some e0:=he;exact .inr ⟨e0,f (0+j),rfl,by rw[h0];rfl⟩
theorem tZ.kind{fl:List Tr}{k:Nat}:∀ {L:Tr},tZ fl L->∀ e∈aF k L,tZ fl e:=by
 intro L
 induction L with
 |nil=>intro _ e he;cases he
 |node b o a x r _ ih=>
  intro h e he
  by_cases hk:bN x=k
  ·rw[show aF k (.node b o a x r)=x::aF k r from if_pos hk]at he;rcases List.mem_cons.1 he with rfl|he
   ·exact h.1
   ·exact ih h.2.1 e he
  ·rw[show aF k (.node b o a x r)=aF k r from if_neg hk]at he;exact ih h.2.1 e he
theorem tZ.body{fl:List Tr}{e:Tr}(h:tZ fl e):tZ fl (bG e):=by
 cases e with
 |nil=>exact h
 |node b o a l r=>
  cases r with
  |nil=>trivial
  |node x y z p q=>exact h.2.1.2.1
theorem oC.fns(h:oC s t){Fg:Fl}(h7:∀ k:Nat,k < (siR (cR t) (dY t) []).length->Fg k=fN t k):∀ e∈gG t,FnS (mI t) (oU t) (aA (qO t)) (gG t) Fg e:=by
 intro e he;obtain⟨f1,f2,f3,f4⟩:=h.flok.fns e he;have h8:=(lM h.ws).1;obtain⟨h5,_⟩:=aDN (F0:=cR t) (dY t) 8 [] h8
 have h3:(bE (aB (siT (cR t) (dY t) []))).Nodup:=by
  cases hT:siT (cR t) (dY t) []with
  |nil=>exact List.nodup_nil
  |node b o a l r=>rw[hT]at h5;exact(fU h5).1
 have h6:=yW 17 _ h3
 have h4:tZ (gG t) (siT (cR t) (dY t) []):=by
  refine aTS (F0:=cR t) (fl':=gG t) (fun k=>?_) (fun k hk=>?_) _ _
  ·rw[List.getD_eq_getElem?_getD];cases hi:(gG t)[k.toNat]? with
   |none=>exact .inr (.inr (.inr (.inl rfl)))
   |some e'=>exact(h.flok.fns e' (List.mem_of_getElem? hi)).1
  ·rw[List.getD_eq_getElem?_getD];rcases h.idx k.toNat with⟨h1,_⟩|⟨e0,S',h1,h2⟩
   ·rw[h1];rfl
   ·rw[h2];show aD (aU (siT (cR t) e0 S'))=0;rw[aCX];unfold mG at hk;rw[h1]at hk;cases e0 with
    |nil=>rfl
    |node b o a l r=>
     cases r with
     |nil=>rfl
     |node x y z p q=>exact hk
 have h0:tZ (gG t) (aB (siT (cR t) (dY t) [])):=by
  cases hT:siT (cR t) (dY t) []with
  |nil=>trivial
  |node b o a l r=>rw[hT]at h4;exact h4.1
 refine⟨f2,f1,f4,f3,(h0.kind e he).body,aGV (h6.2 e he).1,?_⟩;obtain⟨F1,h1⟩:=aKD (lens:=aA (qO t)) (fl:=gG t) (gG t) (fun _=>false) h6.1 e he;refine⟨F1,fun k hk=>?_⟩;obtain⟨j,rfl,hj⟩:=aHD h he k hk;rw[h7 j hj];exact h1 j hk
theorem oC.pars(h:oC s t)(j n:Nat)(hj:mI t j=some n):∃ e,(gG t)[j]?=some e/\gJ e=n:=by
 have h0:((aF 17 (aB (dY t))).map gJ)[j]?=some n:=by rw[h.ok.par];exact hj
 rw[List.getElem?_map]at h0;rcases h.idx j with⟨_,h1⟩|⟨e0,S',h1,h2⟩
 ·unfold cR at h1;rw[h1]at h0;cases h0
 ·unfold cR at h1;rw[h1]at h0;simp only[Option.map_some,Option.some.injEq]at h0;exact⟨_,h2,by rw[yR];exact h0⟩
end Go.Proofs.YtikffmloeifkpaaGreatDoor
namespace Go.Proofs.YtikffmloeifkpaaGreatDoor
open Go.RowKit Go.Lib Go.Deep Go.Maps Go.ChangeMaps Go.MapKept
variable {lens:Nat->Int} {fl:List Tr} {alive:Bool} {vs:Vr}
theorem aF7(t:Tr):iK vs (er t)=iK vs t:=by cases t<;>rfl
theorem aDH(t:Tr):cV (er t)=cV t:=by
 induction t with
 |nil=>rfl
 |node b o a l q ihl _=>simp only[er,cV,ihl]
theorem aIR(t:Tr):eU vs (er t)=eU vs t:=by
 induction t with
 |nil=>rfl
 |node b o a e q ihe ihq=>
  cases e with
  |nil=>
   simp only[er,eU]
  |node b2 o2 c x y=>
   simp only[er]at ihe ihq ⊢;simp only[eU]at ihe ⊢;simp only[ihe,ihq,aF7]
theorem wL(t:Tr):∀ F,exA lens (fl.map er) alive vs (er t) F=exA lens fl alive vs t F:=by
 induction t with
 |nil=>intro F;rfl
 |node b o a l q ihl ihq=>intro F;simp only[er,exA,ihl,ihq,xS,mT,aIR]
theorem aON(t:Tr):∀ s F,cdA lens (fl.map er) (er t) s F=cdA lens fl t s F:=by
 induction t with
 |nil=>intro s F;rfl
 |node b o a l q ihl ihq=>intro s F;simp only[er,cdA,wL,aDH,ihl,ihq]
theorem aMK(t:Tr):dR (er t)=dR t:=by
 funext i
 induction t with
 |nil=>rfl
 |node b o a l q ihl ihq=>simp only[er,dR,ihl,ihq]
theorem aIL(t:Tr):∀ s,eN (er t) s=eN t s:=by
 induction t with
 |nil=>intro s;rfl
 |node b o a e q ihe ihq=>
  intro s;cases e with
  |nil=>
   simp only[er,eN]
  |node b2 o2 c x y=>
   simp only[er]at ihe ihq ⊢;simp only[eN]at ihe ⊢;simp only[ihe,ihq,aF7,aDH]
theorem aSA:∀ (n:Nat) (t:Tr),szT t<=n->∀ s F,stA lens (fl.map er) (er t) s F=stA lens fl t s F:=by
 intro n
 induction n with
 |zero=>intro t h;cases t<;>simp[szT]at h
 |succ n ih=>
  intro t h0 s F;cases t with
  |nil=>rfl
  |node b o a l q=>
   have hl:szT l<=n/\szT q<=n:=by simp only[szT]at h0;omega
   show stA lens (fl.map er) (.node 0 0 a (er l) (er q)) s F=_
   by_cases t20:a.tag=20\/a.tag=18
   ·rw[qT t20,qT t20];exact ih l hl.1 s F
   by_cases t15:a.tag=15
   ·rw[sY t15,sY t15,ih l hl.1];exact ih q hl.2 _ _
   by_cases t9:a.tag=9
   ·rw[yF t9,yF t9,wL]
   by_cases t10:a.tag=10
   ·rw[tD t10,tD t10,wL,wL]
   by_cases t11:a.tag=11
   ·cases q with
    |nil=>rw[xM t11];exact xM t11
    |node b2 o2 z x y=>
     have hs:szT x<=n/\szT y<=n:=by have:=hl.2;simp only[szT]at this;omega
     rw[aUW t11];show stA lens (fl.map er) (.node 0 0 a (er l) (.node 0 0 z (er x) (er y))) s F=_;rw[aUW t11,aON,ih x hs.1,ih y hs.2]
   by_cases t12:a.tag=12
   ·rw[aUV t12,aUV t12,aMK];rw[show cdA lens (fl.map er) (er l)=cdA lens fl l from funext fun s=>funext fun F=>aON l s F,show stA lens (fl.map er) (er q)=stA lens fl q from funext fun s=>funext fun F=>ih q hl.2 s F]
   by_cases t13:a.tag=13
   ·rw[aUU t13,aUU t13,wL]
   by_cases t14:a.tag=14
   ·rw[sZ t14,sZ t14,wL]
   ·rw[aBR ⟨by omega,by omega,t15,by omega⟩,aBR ⟨by omega,by omega,t15,by omega⟩]
theorem aSZ(e:Tr)(F:Fl):fnA lens (fl.map er) (er e) F=fnA lens fl e F:=by
 unfold fnA;rw[wP,mT,aHW,aSA _ _ (Nat.le_refl _),aIL]
theorem aQV(t:Tr):gG (er t)=(gG t).map er:=by unfold gG;rw[uX,uJ,aFR,aFS,gT,uP]
theorem aRE(t:Tr):qO (er t)=(qO t).map er:=by unfold qO;rw[uX,uJ,aFR,aFS,gT,uP]
theorem aIT(t:Tr):fN (er t)=fN t:=by
 unfold fN;rw[aQV,aRE,aB1,List.foldl_map];simp only[aSZ]
theorem yH{s:ByteArray}{t:Tr}(h:er t=rdT s):siR (cR t) (dY t) []=fS s/\fN t=fN (rdT s):=by
 refine⟨?_,by rw[<-h,aIT]⟩;unfold fS;rw[<-h,uX,uJ,aMI,aMJ]
end Go.Proofs.YtikffmloeifkpaaGreatDoor
namespace Go.Proofs.YtikffmloeifkpaaGreatDoor
open Go.RowKit Go.Lib Go.Deep Go.Maps Go.ChangeMaps Go.MapKept
theorem tY{ab:Nat}{s:ByteArray}{w:World}(h:PgW ab s w)(hc:(eZ s).1=0):Calls Tryz.prog 27 #[.pointer (some ⟨ab,0,none⟩)] w fun e w'=>∃ v,e= .returned v/\FlW w.heap.size v (fS s) (fN (rdT s)) w'/\Below w.heap.size w w':=by
 refine(aL0 h hc).mono ?_;rintro e w' ⟨v,t,he,rfl,hf,hb⟩;obtain⟨e1,e2⟩:=yH he;rw[e1,e2]at hf;exact⟨v,rfl,hf,hb⟩
theorem FlW.row{H:Nat}{v:Value}{S:Sl}{F:Fl}{w:World}(h:FlW H v S F w)(hn:0 < S.length):∃ g cp,v= .slice (some ⟨g,0,none⟩) S.length cp/\H<=g/\g < w.heap.size/\∀ i (hi:i < S.length),w.cell? ⟨g,i*3,none⟩=some (.int .i64 S[i].1)/\w.cell? ⟨g,i*3+1,none⟩=some (.int .i64 S[i].2)/\w.cell? ⟨g,i*3+2,none⟩=some (.bool (F i)):=by
 rcases h.ex with⟨rfl,_⟩|⟨g,cp,cur,h1,h2,h3,h4⟩
 ·exact absurd hn (by simp)
 ·refine⟨g,cp,h1,h2,(Array.getElem?_eq_some_iff.1 h3).1,fun i hi=>?_⟩;obtain⟨e1,e2,e3⟩:=h4 i hi;exact⟨by rw[cell_of_row _ _ _ _ _ _ h3];exact e1,by rw[cell_of_row _ _ _ _ _ _ h3];exact e2,by rw[cell_of_row _ _ _ _ _ _ h3];exact e3⟩
theorem FlW.next{H:Nat}{v:Value}{S:Sl}{F:Fl}{w w':World}(h:FlW H v S F w)(hw:∀ i,i < w.heap.size->w'.heap[i]?=w.heap[i]?):FlW H v S F w':=h.same fun k _ hk=>hw k (Array.getElem?_eq_some_iff.1 hk).1
end Go.Proofs.YtikffmloeifkpaaGreatDoor
namespace Go.Proofs.YtikffmloeifkpaaGreatDoor
open Go.RowKit Go.Lib Go.Deep
set_option maxRecDepth 100000
def aW3(q:Nat->Int)(n:Int):Tr:= .node 0 0 {tag:=16,pos:=q 2,name:=nm [97],npos:=q 1,val:=n} .nil .nil
def aX1(q:Nat->Int):Tr:= .node 0 0 {tag:=9,name:=nm [105],npos:=q 11,flag:=true,which:=1} (.node 0 0 {tag:=0} .nil .nil) .nil
def aX0(q:Nat->Int):Tr:= .node 0 0 {tag:=9,name:=nm [115],npos:=q 16,flag:=true,which:=2} (.node 0 0 {tag:=0} .nil .nil) .nil
def bCE(q:Nat->Int)(n:Int):Tr:= .node 0 0 {tag:=7,op:=23,pos:=q 21} (.node 0 0 {tag:=1,name:=nm [105],npos:=q 21,which:=1} .nil .nil) (.node 0 0 {tag:=0,val:=n} .nil .nil)
def aWZ(q:Nat->Int):Tr:= .node 0 0 {tag:=10,name:=nm [97],npos:=q 25} (.node 0 0 {tag:=1,name:=nm [105],npos:=q 27,which:=1} .nil .nil) (.node 0 0 {tag:=6,op:=29,pos:=q 31,site:=-1} (.node 0 0 {tag:=1,name:=nm [105],npos:=q 30,which:=1} .nil .nil) (.node 0 0 {tag:=1,name:=nm [120],npos:=q 32} .nil .nil))
def aWY(q:Nat->Int):Tr:= .node 0 0 {tag:=9,name:=nm [115],npos:=q 34,which:=2} (.node 0 0 {tag:=6,op:=27,pos:=q 37,site:=-1} (.node 0 0 {tag:=1,name:=nm [115],npos:=q 36,which:=2} .nil .nil) (.node 0 0 {tag:=2,name:=nm [97],npos:=q 38,site:=1} (.node 0 0 {tag:=1,name:=nm [105],npos:=q 40,which:=1} .nil .nil) .nil)) .nil
def aWX(q:Nat->Int)(s:Int):Tr:= .node 0 0 {tag:=9,name:=nm [105],npos:=q 43,which:=1} (.node 0 0 {tag:=6,op:=27,pos:=q 46,site:=-1} (.node 0 0 {tag:=1,name:=nm [105],npos:=q 45,which:=1} .nil .nil) (.node 0 0 {tag:=0,val:=s} .nil .nil)) .nil
def aWW(q:Nat->Int)(n:Int)(s:Int):Tr:= .node 0 0 {tag:=12} (bCE q n) (.node 0 0 {tag:=20} (.node 0 0 {tag:=15} (aWZ q) (.node 0 0 {tag:=15} (aWY q) (.node 0 0 {tag:=15} (aWX q s) .nil))) .nil)
def aWV(q:Nat->Int):Tr:= .node 0 0 {tag:=13} (.node 0 0 {tag:=1,name:=nm [115],npos:=q 51,which:=2} .nil .nil) .nil
def aVR(q:Nat->Int)(n:Int)(s:Int):Tr:= .node 0 0 {tag:=17,name:=nm [109,97,105,110],npos:=q 5,val:=3} (.node 0 0 {tag:=20} (.node 0 0 {tag:=15} (.node 0 0 {tag:=19,name:=nm [120],npos:=q 7} .nil .nil) .nil) .nil) (.node 0 0 {tag:=18} .nil (.node 0 0 {tag:=20} (.node 0 0 {tag:=15} (aX1 q) (.node 0 0 {tag:=15} (aX0 q) (.node 0 0 {tag:=15} (aWW q n s) (.node 0 0 {tag:=15} (aWV q) .nil)))) .nil))
def trA(q:Nat->Int)(n s:Int):Tr:= .node 0 0 {tag:=20} (.node 0 0 {tag:=15} (aW3 q n) (.node 0 0 {tag:=15} (aVR q n s) .nil)) .nil
theorem bC4(q:Nat->Int)(n s:Int):(bP (tkA q n s)).1.code=0:=by kernel_rfl
theorem aWM(q:Nat->Int)(n s:Int):siT (cR (bP (tkA q n s)).2) (dY (bP (tkA q n s)).2) []=trA q n s:=by kernel_rfl
theorem bBV(q:Nat->Int)(n s:Int):qV (bP (tkA q n s)).2=0:=by kernel_rfl
theorem bBY(q:Nat->Int)(n s:Int):(siR (cR (bP (tkA q n s)).2) (dY (bP (tkA q n s)).2) []).length=2:=by kernel_rfl
theorem bBS(q:Nat->Int)(s z:Int):((List.range 64).all fun k=>decide ((fO (bP (tkA q ((k+1:Nat):Int) s)).2 z).code=0))=true:=by kernel_rfl
def aVZ(q:Nat->Int)(n:Int):Tr:= .node 0 0 {tag:=16,pos:=q 2,name:=nm [97],npos:=q 1,val:=n} .nil .nil
def bCD(q:Nat->Int):Tr:= .node 0 0 {tag:=7,op:=26,pos:=q 12} (.node 0 0 {tag:=1,name:=nm [105],npos:=q 12} .nil .nil) (.node 0 0 {tag:=0} .nil .nil)
def bCC(q:Nat->Int)(n:Int):Tr:= .node 0 0 {tag:=7,op:=23,pos:=q 16} (.node 0 0 {tag:=1,name:=nm [105],npos:=q 16} .nil .nil) (.node 0 0 {tag:=0,val:=n} .nil .nil)
def aWU(q:Nat->Int):Tr:= .node 0 0 {tag:=10,name:=nm [97],npos:=q 20} (.node 0 0 {tag:=1,name:=nm [105],npos:=q 22} .nil .nil) (.node 0 0 {tag:=6,op:=29,pos:=q 26,site:=-1} (.node 0 0 {tag:=1,name:=nm [105],npos:=q 25} .nil .nil) (.node 0 0 {tag:=1,name:=nm [120],npos:=q 27,which:=1} .nil .nil))
def aWT(q:Nat->Int):Tr:= .node 0 0 {tag:=13} (.node 0 0 {tag:=2,name:=nm [97],npos:=q 30,site:=1} (.node 0 0 {tag:=1,name:=nm [105],npos:=q 32} .nil .nil) .nil) .nil
def aVQ(q:Nat->Int)(n:Int):Tr:= .node 0 0 {tag:=17,name:=nm [97,116],npos:=q 5,val:=2} (.node 0 0 {tag:=20} (.node 0 0 {tag:=15} (.node 0 0 {tag:=19,name:=nm [105],npos:=q 7} .nil .nil) (.node 0 0 {tag:=15} (.node 0 0 {tag:=19,name:=nm [120],npos:=q 9,which:=1} .nil .nil) .nil)) .nil) (.node 0 0 {tag:=18} (.node 0 0 {tag:=20} (.node 0 0 {tag:=15} (bCD q) (.node 0 0 {tag:=15} (bCC q n) .nil)) .nil) (.node 0 0 {tag:=20} (.node 0 0 {tag:=15} (aWU q) (.node 0 0 {tag:=15} (aWT q) .nil)) .nil))
def aWS(q:Nat->Int):Tr:= .node 0 0 {tag:=9,name:=nm [105],npos:=q 43,flag:=true,which:=1} (.node 0 0 {tag:=0} .nil .nil) .nil
def aWR(q:Nat->Int):Tr:= .node 0 0 {tag:=9,name:=nm [115],npos:=q 48,flag:=true,which:=2} (.node 0 0 {tag:=0} .nil .nil) .nil
def bCB(q:Nat->Int)(n:Int):Tr:= .node 0 0 {tag:=7,op:=24,pos:=q 53} (.node 0 0 {tag:=1,name:=nm [105],npos:=q 53,which:=1} .nil .nil) (.node 0 0 {tag:=0,val:=n - 1} .nil .nil)
def aWQ(q:Nat->Int):Tr:= .node 0 0 {tag:=9,name:=nm [115],npos:=q 57,which:=2} (.node 0 0 {tag:=6,op:=27,pos:=q 60,site:=-1} (.node 0 0 {tag:=1,name:=nm [115],npos:=q 59,which:=2} .nil .nil) (.node 0 0 {tag:=3,name:=nm [97,116],npos:=q 61,site:=2} (.node 0 0 {tag:=20} (.node 0 0 {tag:=15} (.node 0 0 {tag:=1,name:=nm [105],npos:=q 63,which:=1} .nil .nil) (.node 0 0 {tag:=15} (.node 0 0 {tag:=1,name:=nm [120],npos:=q 65} .nil .nil) .nil)) .nil) .nil)) .nil
def aWG(q:Nat->Int)(s:Int):Tr:= .node 0 0 {tag:=9,name:=nm [105],npos:=q 68,which:=1} (.node 0 0 {tag:=6,op:=27,pos:=q 71,site:=-1} (.node 0 0 {tag:=1,name:=nm [105],npos:=q 70,which:=1} .nil .nil) (.node 0 0 {tag:=0,val:=s} .nil .nil)) .nil
def aWF(q:Nat->Int)(n:Int)(s:Int):Tr:= .node 0 0 {tag:=12} (bCB q n) (.node 0 0 {tag:=20} (.node 0 0 {tag:=15} (aWQ q) (.node 0 0 {tag:=15} (aWG q s) .nil)) .nil)
def aWE(q:Nat->Int):Tr:= .node 0 0 {tag:=13} (.node 0 0 {tag:=1,name:=nm [115],npos:=q 76,which:=2} .nil .nil) .nil
def aUZ(q:Nat->Int)(n:Int)(s:Int):Tr:= .node 0 0 {tag:=17,name:=nm [109,97,105,110],npos:=q 37,val:=3,which:=1} (.node 0 0 {tag:=20} (.node 0 0 {tag:=15} (.node 0 0 {tag:=19,name:=nm [120],npos:=q 39} .nil .nil) .nil) .nil) (.node 0 0 {tag:=18} .nil (.node 0 0 {tag:=20} (.node 0 0 {tag:=15} (aWS q) (.node 0 0 {tag:=15} (aWR q) (.node 0 0 {tag:=15} (aWF q n s) (.node 0 0 {tag:=15} (aWE q) .nil)))) .nil))
def trB(q:Nat->Int)(n s:Int):Tr:= .node 0 0 {tag:=20} (.node 0 0 {tag:=15} (aVZ q n) (.node 0 0 {tag:=15} (aVQ q n) (.node 0 0 {tag:=15} (aUZ q n s) .nil))) .nil
theorem bC3(q:Nat->Int)(n s:Int):(bP (tkB q n s)).1.code=0:=by kernel_rfl
theorem aWL(q:Nat->Int)(n s:Int):siT (cR (bP (tkB q n s)).2) (dY (bP (tkB q n s)).2) []=trB q n s:=by kernel_rfl
theorem bBU(q:Nat->Int)(n s:Int):qV (bP (tkB q n s)).2=1:=by kernel_rfl
theorem bBX(q:Nat->Int)(n s:Int):(siR (cR (bP (tkB q n s)).2) (dY (bP (tkB q n s)).2) []).length=3:=by kernel_rfl
theorem bBR(q:Nat->Int)(s z:Int):((List.range 64).all fun k=>decide ((fO (bP (tkB q ((k+1:Nat):Int) s)).2 z).code=0))=true:=by kernel_rfl
def aW2(q:Nat->Int)(n:Int):Tr:= .node 0 0 {tag:=16,pos:=q 2,name:=nm [97],npos:=q 1,val:=n} .nil .nil
def aWP(q:Nat->Int):Tr:= .node 0 0 {tag:=9,name:=nm [105],npos:=q 11,flag:=true,which:=1} (.node 0 0 {tag:=5} (.node 0 0 {tag:=0,val:=1} .nil .nil) .nil) .nil
def aWO(q:Nat->Int):Tr:= .node 0 0 {tag:=9,name:=nm [115],npos:=q 17,flag:=true,which:=2} (.node 0 0 {tag:=0} .nil .nil) .nil
def bCA(q:Nat->Int):Tr:= .node 0 0 {tag:=7,op:=23,pos:=q 22} (.node 0 0 {tag:=1,name:=nm [105],npos:=q 22,which:=1} .nil .nil) (.node 0 0 {tag:=0,val:=99} .nil .nil)
def bC9(q:Nat->Int):Tr:= .node 0 0 {tag:=7,op:=26,pos:=q 27} (.node 0 0 {tag:=1,name:=nm [105],npos:=q 27,which:=1} .nil .nil) (.node 0 0 {tag:=0} .nil .nil)
def bC8(q:Nat->Int)(n:Int):Tr:= .node 0 0 {tag:=7,op:=23,pos:=q 31} (.node 0 0 {tag:=1,name:=nm [105],npos:=q 31,which:=1} .nil .nil) (.node 0 0 {tag:=0,val:=n} .nil .nil)
def bC7(q:Nat->Int)(n:Int):Tr:= .node 0 0 {tag:=8,op:=32} (bC9 q) (bC8 q n)
def bC6(q:Nat->Int)(s:Int):Tr:= .node 0 0 {tag:=7,op:=21,pos:=q 35} (.node 0 0 {tag:=6,op:=31,pos:=q 36} (.node 0 0 {tag:=1,name:=nm [105],npos:=q 35,which:=1} .nil .nil) (.node 0 0 {tag:=0,val:=s} .nil .nil)) (.node 0 0 {tag:=0} .nil .nil)
def bC5(q:Nat->Int)(n:Int)(s:Int):Tr:= .node 0 0 {tag:=8,op:=32} (bC7 q n) (bC6 q s)
def aWN(q:Nat->Int):Tr:= .node 0 0 {tag:=10,name:=nm [97],npos:=q 41,site:=1} (.node 0 0 {tag:=1,name:=nm [105],npos:=q 43,which:=1} .nil .nil) (.node 0 0 {tag:=6,op:=29,pos:=q 47,site:=-1} (.node 0 0 {tag:=1,name:=nm [105],npos:=q 46,which:=1} .nil .nil) (.node 0 0 {tag:=1,name:=nm [120],npos:=q 48} .nil .nil))
def aWD(q:Nat->Int):Tr:= .node 0 0 {tag:=9,name:=nm [115],npos:=q 50,which:=2} (.node 0 0 {tag:=6,op:=27,pos:=q 53,site:=-1} (.node 0 0 {tag:=1,name:=nm [115],npos:=q 52,which:=2} .nil .nil) (.node 0 0 {tag:=2,name:=nm [97],npos:=q 54,site:=2} (.node 0 0 {tag:=1,name:=nm [105],npos:=q 56,which:=1} .nil .nil) .nil)) .nil
def aWC(q:Nat->Int)(n:Int)(s:Int):Tr:= .node 0 0 {tag:=11} (bC5 q n s) (.node 0 0 {tag:=18} (.node 0 0 {tag:=20} (.node 0 0 {tag:=15} (aWN q) (.node 0 0 {tag:=15} (aWD q) .nil)) .nil) .nil)
def aWB(q:Nat->Int):Tr:= .node 0 0 {tag:=9,name:=nm [105],npos:=q 60,which:=1} (.node 0 0 {tag:=6,op:=27,pos:=q 63,site:=-1} (.node 0 0 {tag:=1,name:=nm [105],npos:=q 62,which:=1} .nil .nil) (.node 0 0 {tag:=0,val:=1} .nil .nil)) .nil
def aWA(q:Nat->Int)(n:Int)(s:Int):Tr:= .node 0 0 {tag:=12} (bCA q) (.node 0 0 {tag:=20} (.node 0 0 {tag:=15} (aWC q n s) (.node 0 0 {tag:=15} (aWB q) .nil)) .nil)
def aW9(q:Nat->Int):Tr:= .node 0 0 {tag:=13} (.node 0 0 {tag:=1,name:=nm [115],npos:=q 68,which:=2} .nil .nil) .nil
def aVG(q:Nat->Int)(n:Int)(s:Int):Tr:= .node 0 0 {tag:=17,name:=nm [109,97,105,110],npos:=q 5,val:=3} (.node 0 0 {tag:=20} (.node 0 0 {tag:=15} (.node 0 0 {tag:=19,name:=nm [120],npos:=q 7} .nil .nil) .nil) .nil) (.node 0 0 {tag:=18} .nil (.node 0 0 {tag:=20} (.node 0 0 {tag:=15} (aWP q) (.node 0 0 {tag:=15} (aWO q) (.node 0 0 {tag:=15} (aWA q n s) (.node 0 0 {tag:=15} (aW9 q) .nil)))) .nil))
def trC(q:Nat->Int)(n s:Int):Tr:= .node 0 0 {tag:=20} (.node 0 0 {tag:=15} (aW2 q n) (.node 0 0 {tag:=15} (aVG q n s) .nil)) .nil
theorem bC2(q:Nat->Int)(n s:Int):(bP (tkC q n s)).1.code=0:=by kernel_rfl
theorem aWK(q:Nat->Int)(n s:Int):siT (cR (bP (tkC q n s)).2) (dY (bP (tkC q n s)).2) []=trC q n s:=by kernel_rfl
theorem bBT(q:Nat->Int)(n s:Int):qV (bP (tkC q n s)).2=0:=by kernel_rfl
theorem bBW(q:Nat->Int)(n s:Int):(siR (cR (bP (tkC q n s)).2) (dY (bP (tkC q n s)).2) []).length=3:=by kernel_rfl
theorem bBQ(q:Nat->Int)(s z:Int):((List.range 64).all fun k=>decide ((fO (bP (tkC q ((k+1:Nat):Int) s)).2 z).code=0))=true:=by kernel_rfl
end Go.Proofs.YtikffmloeifkpaaGreatDoor
namespace Go.Proofs.YtikffmloeifkpaaGreatDoor
open Go.RowKit Go.Lib Go.Deep
set_option maxRecDepth 1000000
def aUT(n s:Nat)(x:Int):Nat->Nat->Int->Int
 |0,_,a=>a
 |k+1,i,a=>if i < n then aUT n s x k (i+s) (w64 (a+w64 ((i:Int)*x)))else a
theorem cW{P:Nat->Prop}(h1:P 1)(h2:P 2)(h3:P 3)(h4:P 4)(h5:P 5)(h6:P 6)(h7:P 7)(h8:P 8)(h9:P 9):∀ j,1<=j/\j<=9->P j:=by
 intro j hj;have h:j=1\/j=2\/j=3\/j=4\/j=5\/j=6\/j=7\/j=8\/j=9:=by omega
 rcases h with rfl|rfl|rfl|rfl|rfl|rfl|rfl|rfl|rfl<;>assumption
def aVF:Nat->Nat->(Nat->Prop)->Prop
 |0,_,_=>True
 |k+1,m,P=>aVF k m P/\P (m+k)
theorem aVF.at_{P:Nat->Prop}{m:Nat}:∀ {k:Nat},aVF k m P->∀ j,m<=j/\j < m+k->P j
 |0,_,j,hj=>absurd hj.2 (by omega)
 |k+1,h,j,hj=>by
  by_cases e:j=m+k
  ·rw[e];exact h.2
  ·exact aVF.at_ h.1 j (by omega)
def aUM(n s:Nat):Prop:=∀ (q:Nat->Int) (x:Int),nE [aW3 q n] [aVR q n s] (aVR q n s) [x] 20000=⟨1,aUT n s x 65 0 0,-1,[]⟩
def aUL(n s:Nat):Prop:=∀ (q:Nat->Int) (x:Int),nE [aVZ q n] [aVQ q n,aUZ q n s] (aUZ q n s) [x] 20000=⟨1,aUT n s x 65 0 0,-1,[]⟩
def aUK(n s:Nat):Prop:=∀ (q:Nat->Int) (x:Int),nE [aW2 q n] [aVG q n s] (aVG q n s) [x] 20000=⟨1,aUT n s x 65 0 0,-1,[]⟩
end Go.Proofs.YtikffmloeifkpaaGreatDoor
namespace Go.Proofs.YtikffmloeifkpaaGreatDoor
open Go.RowKit Go.Lib Go.Deep
set_option maxRecDepth 1000000
theorem rA1:∀ j,1<=j/\j<=9->aUM 1 j:=by apply cW<;>(intro _ _;kernel_rfl)
theorem rA2:∀ j,1<=j/\j<=9->aUM 2 j:=by apply cW<;>(intro _ _;kernel_rfl)
theorem rA3:∀ j,1<=j/\j<=9->aUM 3 j:=by apply cW<;>(intro _ _;kernel_rfl)
theorem rA4:∀ j,1<=j/\j<=9->aUM 4 j:=by apply cW<;>(intro _ _;kernel_rfl)
theorem rA5:∀ j,1<=j/\j<=9->aUM 5 j:=by apply cW<;>(intro _ _;kernel_rfl)
theorem rA6:∀ j,1<=j/\j<=9->aUM 6 j:=by apply cW<;>(intro _ _;kernel_rfl)
theorem rA7:∀ j,1<=j/\j<=9->aUM 7 j:=by apply cW<;>(intro _ _;kernel_rfl)
theorem rA8:∀ j,1<=j/\j<=9->aUM 8 j:=by apply cW<;>(intro _ _;kernel_rfl)
theorem rA9:∀ j,1<=j/\j<=9->aUM 9 j:=by apply cW<;>(intro _ _;kernel_rfl)
theorem bBP:∀ j,1<=j/\j<=9->aUM 10 j:=by apply cW<;>(intro _ _;kernel_rfl)
theorem bBO:∀ j,1<=j/\j<=9->aUM 11 j:=by apply cW<;>(intro _ _;kernel_rfl)
theorem bBN:∀ j,1<=j/\j<=9->aUM 12 j:=by apply cW<;>(intro _ _;kernel_rfl)
theorem bBM:∀ j,1<=j/\j<=9->aUM 13 j:=by apply cW<;>(intro _ _;kernel_rfl)
theorem bBL:∀ j,1<=j/\j<=9->aUM 14 j:=by apply cW<;>(intro _ _;kernel_rfl)
theorem bBK:∀ j,1<=j/\j<=9->aUM 15 j:=by apply cW<;>(intro _ _;kernel_rfl)
theorem bBJ:∀ j,1<=j/\j<=9->aUM 16 j:=by apply cW<;>(intro _ _;kernel_rfl)
theorem bBI:∀ j,1<=j/\j<=9->aUM 17 j:=by apply cW<;>(intro _ _;kernel_rfl)
theorem bBH:∀ j,1<=j/\j<=9->aUM 18 j:=by apply cW<;>(intro _ _;kernel_rfl)
theorem bBG:∀ j,1<=j/\j<=9->aUM 19 j:=by apply cW<;>(intro _ _;kernel_rfl)
theorem bBF:∀ j,1<=j/\j<=9->aUM 20 j:=by apply cW<;>(intro _ _;kernel_rfl)
theorem bBE:∀ j,1<=j/\j<=9->aUM 21 j:=by apply cW<;>(intro _ _;kernel_rfl)
theorem bBD:∀ j,1<=j/\j<=9->aUM 22 j:=by apply cW<;>(intro _ _;kernel_rfl)
theorem bBC:∀ j,1<=j/\j<=9->aUM 23 j:=by apply cW<;>(intro _ _;kernel_rfl)
theorem bBB:∀ j,1<=j/\j<=9->aUM 24 j:=by apply cW<;>(intro _ _;kernel_rfl)
theorem bBA:∀ j,1<=j/\j<=9->aUM 25 j:=by apply cW<;>(intro _ _;kernel_rfl)
theorem bB9:∀ j,1<=j/\j<=9->aUM 26 j:=by apply cW<;>(intro _ _;kernel_rfl)
theorem bB8:∀ j,1<=j/\j<=9->aUM 27 j:=by apply cW<;>(intro _ _;kernel_rfl)
theorem bB7:∀ j,1<=j/\j<=9->aUM 28 j:=by apply cW<;>(intro _ _;kernel_rfl)
theorem bB6:∀ j,1<=j/\j<=9->aUM 29 j:=by apply cW<;>(intro _ _;kernel_rfl)
theorem bB5:∀ j,1<=j/\j<=9->aUM 30 j:=by apply cW<;>(intro _ _;kernel_rfl)
theorem bB4:∀ j,1<=j/\j<=9->aUM 31 j:=by apply cW<;>(intro _ _;kernel_rfl)
theorem bB3:∀ j,1<=j/\j<=9->aUM 32 j:=by apply cW<;>(intro _ _;kernel_rfl)
theorem bB2:∀ j,1<=j/\j<=9->aUM 33 j:=by apply cW<;>(intro _ _;kernel_rfl)
theorem bB1:∀ j,1<=j/\j<=9->aUM 34 j:=by apply cW<;>(intro _ _;kernel_rfl)
theorem bB0:∀ j,1<=j/\j<=9->aUM 35 j:=by apply cW<;>(intro _ _;kernel_rfl)
theorem bAZ:∀ j,1<=j/\j<=9->aUM 36 j:=by apply cW<;>(intro _ _;kernel_rfl)
theorem bAY:∀ j,1<=j/\j<=9->aUM 37 j:=by apply cW<;>(intro _ _;kernel_rfl)
theorem bAX:∀ j,1<=j/\j<=9->aUM 38 j:=by apply cW<;>(intro _ _;kernel_rfl)
theorem bAW:∀ j,1<=j/\j<=9->aUM 39 j:=by apply cW<;>(intro _ _;kernel_rfl)
theorem bAV:∀ j,1<=j/\j<=9->aUM 40 j:=by apply cW<;>(intro _ _;kernel_rfl)
theorem bAU:∀ j,1<=j/\j<=9->aUM 41 j:=by apply cW<;>(intro _ _;kernel_rfl)
theorem bAT:∀ j,1<=j/\j<=9->aUM 42 j:=by apply cW<;>(intro _ _;kernel_rfl)
theorem bAS:∀ j,1<=j/\j<=9->aUM 43 j:=by apply cW<;>(intro _ _;kernel_rfl)
theorem bAR:∀ j,1<=j/\j<=9->aUM 44 j:=by apply cW<;>(intro _ _;kernel_rfl)
theorem bAQ:∀ j,1<=j/\j<=9->aUM 45 j:=by apply cW<;>(intro _ _;kernel_rfl)
theorem bAP:∀ j,1<=j/\j<=9->aUM 46 j:=by apply cW<;>(intro _ _;kernel_rfl)
theorem bAO:∀ j,1<=j/\j<=9->aUM 47 j:=by apply cW<;>(intro _ _;kernel_rfl)
theorem bAN:∀ j,1<=j/\j<=9->aUM 48 j:=by apply cW<;>(intro _ _;kernel_rfl)
theorem bAM:∀ j,1<=j/\j<=9->aUM 49 j:=by apply cW<;>(intro _ _;kernel_rfl)
theorem bAL:∀ j,1<=j/\j<=9->aUM 50 j:=by apply cW<;>(intro _ _;kernel_rfl)
theorem bAK:∀ j,1<=j/\j<=9->aUM 51 j:=by apply cW<;>(intro _ _;kernel_rfl)
theorem bAJ:∀ j,1<=j/\j<=9->aUM 52 j:=by apply cW<;>(intro _ _;kernel_rfl)
theorem bAI:∀ j,1<=j/\j<=9->aUM 53 j:=by apply cW<;>(intro _ _;kernel_rfl)
theorem bAH:∀ j,1<=j/\j<=9->aUM 54 j:=by apply cW<;>(intro _ _;kernel_rfl)
theorem bAG:∀ j,1<=j/\j<=9->aUM 55 j:=by apply cW<;>(intro _ _;kernel_rfl)
theorem bAF:∀ j,1<=j/\j<=9->aUM 56 j:=by apply cW<;>(intro _ _;kernel_rfl)
theorem bAE:∀ j,1<=j/\j<=9->aUM 57 j:=by apply cW<;>(intro _ _;kernel_rfl)
theorem bAD:∀ j,1<=j/\j<=9->aUM 58 j:=by apply cW<;>(intro _ _;kernel_rfl)
theorem bAC:∀ j,1<=j/\j<=9->aUM 59 j:=by apply cW<;>(intro _ _;kernel_rfl)
theorem bAB:∀ j,1<=j/\j<=9->aUM 60 j:=by apply cW<;>(intro _ _;kernel_rfl)
theorem bAA:∀ j,1<=j/\j<=9->aUM 61 j:=by apply cW<;>(intro _ _;kernel_rfl)
theorem bA9:∀ j,1<=j/\j<=9->aUM 62 j:=by apply cW<;>(intro _ _;kernel_rfl)
theorem bA8:∀ j,1<=j/\j<=9->aUM 63 j:=by apply cW<;>(intro _ _;kernel_rfl)
theorem bA7:∀ j,1<=j/\j<=9->aUM 64 j:=by apply cW<;>(intro _ _;kernel_rfl)
theorem aWJ:aVF 64 1 fun n=>∀ j,1<=j/\j<=9->aUM n j:=⟨⟨⟨⟨⟨⟨⟨⟨⟨⟨⟨⟨⟨⟨⟨⟨⟨⟨⟨⟨⟨⟨⟨⟨⟨⟨⟨⟨⟨⟨⟨⟨⟨⟨⟨⟨⟨⟨⟨⟨⟨⟨⟨⟨⟨⟨⟨⟨⟨⟨⟨⟨⟨⟨⟨⟨⟨⟨⟨⟨⟨⟨⟨⟨trivial,rA1⟩,rA2⟩,rA3⟩,rA4⟩,rA5⟩,rA6⟩,rA7⟩,rA8⟩,rA9⟩,bBP⟩,bBO⟩,bBN⟩,bBM⟩,bBL⟩,bBK⟩,bBJ⟩,bBI⟩,bBH⟩,bBG⟩,bBF⟩,bBE⟩,bBD⟩,bBC⟩,bBB⟩,bBA⟩,bB9⟩,bB8⟩,bB7⟩,bB6⟩,bB5⟩,bB4⟩,bB3⟩,bB2⟩,bB1⟩,bB0⟩,bAZ⟩,bAY⟩,bAX⟩,bAW⟩,bAV⟩,bAU⟩,bAT⟩,bAS⟩,bAR⟩,bAQ⟩,bAP⟩,bAO⟩,bAN⟩,bAM⟩,bAL⟩,bAK⟩,bAJ⟩,bAI⟩,bAH⟩,bAG⟩,bAF⟩,bAE⟩,bAD⟩,bAC⟩,bAB⟩,bAA⟩,bA9⟩,bA8⟩,bA7⟩
end Go.Proofs.YtikffmloeifkpaaGreatDoor
namespace Go.Proofs.YtikffmloeifkpaaGreatDoor
open Go.RowKit Go.Lib Go.Deep
set_option maxRecDepth 1000000
theorem rB1:∀ j,1<=j/\j<=9->aUL 1 j:=by apply cW<;>(intro _ _;kernel_rfl)
theorem rB2:∀ j,1<=j/\j<=9->aUL 2 j:=by apply cW<;>(intro _ _;kernel_rfl)
theorem rB3:∀ j,1<=j/\j<=9->aUL 3 j:=by apply cW<;>(intro _ _;kernel_rfl)
theorem rB4:∀ j,1<=j/\j<=9->aUL 4 j:=by apply cW<;>(intro _ _;kernel_rfl)
theorem rB5:∀ j,1<=j/\j<=9->aUL 5 j:=by apply cW<;>(intro _ _;kernel_rfl)
theorem rB6:∀ j,1<=j/\j<=9->aUL 6 j:=by apply cW<;>(intro _ _;kernel_rfl)
theorem rB7:∀ j,1<=j/\j<=9->aUL 7 j:=by apply cW<;>(intro _ _;kernel_rfl)
theorem rB8:∀ j,1<=j/\j<=9->aUL 8 j:=by apply cW<;>(intro _ _;kernel_rfl)
theorem rB9:∀ j,1<=j/\j<=9->aUL 9 j:=by apply cW<;>(intro _ _;kernel_rfl)
theorem bA6:∀ j,1<=j/\j<=9->aUL 10 j:=by apply cW<;>(intro _ _;kernel_rfl)
theorem bA5:∀ j,1<=j/\j<=9->aUL 11 j:=by apply cW<;>(intro _ _;kernel_rfl)
theorem bA4:∀ j,1<=j/\j<=9->aUL 12 j:=by apply cW<;>(intro _ _;kernel_rfl)
theorem bA3:∀ j,1<=j/\j<=9->aUL 13 j:=by apply cW<;>(intro _ _;kernel_rfl)
theorem bA2:∀ j,1<=j/\j<=9->aUL 14 j:=by apply cW<;>(intro _ _;kernel_rfl)
theorem bA1:∀ j,1<=j/\j<=9->aUL 15 j:=by apply cW<;>(intro _ _;kernel_rfl)
theorem bA0:∀ j,1<=j/\j<=9->aUL 16 j:=by apply cW<;>(intro _ _;kernel_rfl)
theorem aZZ:∀ j,1<=j/\j<=9->aUL 17 j:=by apply cW<;>(intro _ _;kernel_rfl)
theorem aZY:∀ j,1<=j/\j<=9->aUL 18 j:=by apply cW<;>(intro _ _;kernel_rfl)
theorem aZX:∀ j,1<=j/\j<=9->aUL 19 j:=by apply cW<;>(intro _ _;kernel_rfl)
theorem aZW:∀ j,1<=j/\j<=9->aUL 20 j:=by apply cW<;>(intro _ _;kernel_rfl)
theorem aZV:∀ j,1<=j/\j<=9->aUL 21 j:=by apply cW<;>(intro _ _;kernel_rfl)
theorem aZU:∀ j,1<=j/\j<=9->aUL 22 j:=by apply cW<;>(intro _ _;kernel_rfl)
theorem aZT:∀ j,1<=j/\j<=9->aUL 23 j:=by apply cW<;>(intro _ _;kernel_rfl)
theorem aZS:∀ j,1<=j/\j<=9->aUL 24 j:=by apply cW<;>(intro _ _;kernel_rfl)
theorem aZR:∀ j,1<=j/\j<=9->aUL 25 j:=by apply cW<;>(intro _ _;kernel_rfl)
theorem aZQ:∀ j,1<=j/\j<=9->aUL 26 j:=by apply cW<;>(intro _ _;kernel_rfl)
theorem aZP:∀ j,1<=j/\j<=9->aUL 27 j:=by apply cW<;>(intro _ _;kernel_rfl)
theorem aZO:∀ j,1<=j/\j<=9->aUL 28 j:=by apply cW<;>(intro _ _;kernel_rfl)
theorem aZN:∀ j,1<=j/\j<=9->aUL 29 j:=by apply cW<;>(intro _ _;kernel_rfl)
theorem aZM:∀ j,1<=j/\j<=9->aUL 30 j:=by apply cW<;>(intro _ _;kernel_rfl)
theorem aZL:∀ j,1<=j/\j<=9->aUL 31 j:=by apply cW<;>(intro _ _;kernel_rfl)
theorem aZK:∀ j,1<=j/\j<=9->aUL 32 j:=by apply cW<;>(intro _ _;kernel_rfl)
theorem aZJ:∀ j,1<=j/\j<=9->aUL 33 j:=by apply cW<;>(intro _ _;kernel_rfl)
theorem aZI:∀ j,1<=j/\j<=9->aUL 34 j:=by apply cW<;>(intro _ _;kernel_rfl)
theorem aZH:∀ j,1<=j/\j<=9->aUL 35 j:=by apply cW<;>(intro _ _;kernel_rfl)
theorem aZG:∀ j,1<=j/\j<=9->aUL 36 j:=by apply cW<;>(intro _ _;kernel_rfl)
theorem aZF:∀ j,1<=j/\j<=9->aUL 37 j:=by apply cW<;>(intro _ _;kernel_rfl)
theorem aZE:∀ j,1<=j/\j<=9->aUL 38 j:=by apply cW<;>(intro _ _;kernel_rfl)
theorem aZD:∀ j,1<=j/\j<=9->aUL 39 j:=by apply cW<;>(intro _ _;kernel_rfl)
theorem aZC:∀ j,1<=j/\j<=9->aUL 40 j:=by apply cW<;>(intro _ _;kernel_rfl)
theorem aZB:∀ j,1<=j/\j<=9->aUL 41 j:=by apply cW<;>(intro _ _;kernel_rfl)
theorem aZA:∀ j,1<=j/\j<=9->aUL 42 j:=by apply cW<;>(intro _ _;kernel_rfl)
theorem aZ9:∀ j,1<=j/\j<=9->aUL 43 j:=by apply cW<;>(intro _ _;kernel_rfl)
theorem aZ8:∀ j,1<=j/\j<=9->aUL 44 j:=by apply cW<;>(intro _ _;kernel_rfl)
theorem aZ7:∀ j,1<=j/\j<=9->aUL 45 j:=by apply cW<;>(intro _ _;kernel_rfl)
theorem aZ6:∀ j,1<=j/\j<=9->aUL 46 j:=by apply cW<;>(intro _ _;kernel_rfl)
theorem aZ5:∀ j,1<=j/\j<=9->aUL 47 j:=by apply cW<;>(intro _ _;kernel_rfl)
theorem aZ4:∀ j,1<=j/\j<=9->aUL 48 j:=by apply cW<;>(intro _ _;kernel_rfl)
theorem aZ3:∀ j,1<=j/\j<=9->aUL 49 j:=by apply cW<;>(intro _ _;kernel_rfl)
theorem aZ2:∀ j,1<=j/\j<=9->aUL 50 j:=by apply cW<;>(intro _ _;kernel_rfl)
theorem aZ1:∀ j,1<=j/\j<=9->aUL 51 j:=by apply cW<;>(intro _ _;kernel_rfl)
theorem aZ0:∀ j,1<=j/\j<=9->aUL 52 j:=by apply cW<;>(intro _ _;kernel_rfl)
theorem aYZ:∀ j,1<=j/\j<=9->aUL 53 j:=by apply cW<;>(intro _ _;kernel_rfl)
theorem aYY:∀ j,1<=j/\j<=9->aUL 54 j:=by apply cW<;>(intro _ _;kernel_rfl)
theorem aYX:∀ j,1<=j/\j<=9->aUL 55 j:=by apply cW<;>(intro _ _;kernel_rfl)
theorem aYW:∀ j,1<=j/\j<=9->aUL 56 j:=by apply cW<;>(intro _ _;kernel_rfl)
theorem aYV:∀ j,1<=j/\j<=9->aUL 57 j:=by apply cW<;>(intro _ _;kernel_rfl)
theorem aYU:∀ j,1<=j/\j<=9->aUL 58 j:=by apply cW<;>(intro _ _;kernel_rfl)
theorem aYT:∀ j,1<=j/\j<=9->aUL 59 j:=by apply cW<;>(intro _ _;kernel_rfl)
theorem aYS:∀ j,1<=j/\j<=9->aUL 60 j:=by apply cW<;>(intro _ _;kernel_rfl)
theorem aYR:∀ j,1<=j/\j<=9->aUL 61 j:=by apply cW<;>(intro _ _;kernel_rfl)
theorem aYQ:∀ j,1<=j/\j<=9->aUL 62 j:=by apply cW<;>(intro _ _;kernel_rfl)
theorem aYP:∀ j,1<=j/\j<=9->aUL 63 j:=by apply cW<;>(intro _ _;kernel_rfl)
theorem aYO:∀ j,1<=j/\j<=9->aUL 64 j:=by apply cW<;>(intro _ _;kernel_rfl)
theorem aWI:aVF 64 1 fun n=>∀ j,1<=j/\j<=9->aUL n j:=⟨⟨⟨⟨⟨⟨⟨⟨⟨⟨⟨⟨⟨⟨⟨⟨⟨⟨⟨⟨⟨⟨⟨⟨⟨⟨⟨⟨⟨⟨⟨⟨⟨⟨⟨⟨⟨⟨⟨⟨⟨⟨⟨⟨⟨⟨⟨⟨⟨⟨⟨⟨⟨⟨⟨⟨⟨⟨⟨⟨⟨⟨⟨⟨trivial,rB1⟩,rB2⟩,rB3⟩,rB4⟩,rB5⟩,rB6⟩,rB7⟩,rB8⟩,rB9⟩,bA6⟩,bA5⟩,bA4⟩,bA3⟩,bA2⟩,bA1⟩,bA0⟩,aZZ⟩,aZY⟩,aZX⟩,aZW⟩,aZV⟩,aZU⟩,aZT⟩,aZS⟩,aZR⟩,aZQ⟩,aZP⟩,aZO⟩,aZN⟩,aZM⟩,aZL⟩,aZK⟩,aZJ⟩,aZI⟩,aZH⟩,aZG⟩,aZF⟩,aZE⟩,aZD⟩,aZC⟩,aZB⟩,aZA⟩,aZ9⟩,aZ8⟩,aZ7⟩,aZ6⟩,aZ5⟩,aZ4⟩,aZ3⟩,aZ2⟩,aZ1⟩,aZ0⟩,aYZ⟩,aYY⟩,aYX⟩,aYW⟩,aYV⟩,aYU⟩,aYT⟩,aYS⟩,aYR⟩,aYQ⟩,aYP⟩,aYO⟩
end Go.Proofs.YtikffmloeifkpaaGreatDoor
