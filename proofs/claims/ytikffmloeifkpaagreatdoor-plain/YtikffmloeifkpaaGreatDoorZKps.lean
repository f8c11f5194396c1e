/- Contracts. -/
import Derived.Test.YtikffmloeifkpaaGreatDoorZKsu
import Derived.Test.YtikffmloeifkpaaGreatDoorP39
import Derived.Test.YtikffmloeifkpaaGreatDoorZKrc
import Derived.Test.YtikffmloeifkpaaGreatDoorZKrd
import Derived.Test.YtikffmloeifkpaaGreatDoorZKre
namespace Go.Proofs.YtikffmloeifkpaaGreatDoor
open Go.RowKit Go.Lib Go.Deep
set_option maxRecDepth 100000
structure aVW(T:ByteArray)(n s:Nat):Prop where
 size:T.size<=4000
 read:(eZ T).1=0
 len:1 < (fS T).length/\(fS T).length<=3
 sure:∀ i:Nat,i < (fS T).length->fN (rdT T) i=true
 run:∀ x,kM T [x] 20000=⟨1,aUT n s x 65 0 0,-1,[]⟩
theorem aUP(n:Nat):(fW n).length<=2:=by unfold fW;split<;>simp
theorem aUY{Q:Nat->Int}(h:((List.range 64).all fun k=>decide (Q k=0))=true){n:Nat}(hn:1<=n/\n<=64):Q (n - 1)=0:=of_decide_eq_true (List.all_eq_true.1 h _ (List.mem_range.2 (by omega)))
theorem aVE{T:ByteArray}{L:List Tok}(hz:T.size<=4000)(hc:(dN T).code=0)(e:aW T=L)(hp:(bP L).1.code=0)(hn:(fO (bP L).2 T.size).code=0):(eZ T).1=0:=by
 have hr:rdT T=(bP L).2:=by unfold rdT;rw[e]
 unfold eZ;rw[if_neg (by omega),if_neg (by rw[hc];simp),hr,e,if_neg (by rw[hp];simp)];exact hn
theorem aV0{P:Nat->Nat->Nat->Bool}{m:Nat}(h:((List.range 64).all fun n=>(List.range 9).all fun s=>(List.range m).all fun k=>P (n+1) (s+1) k)=true){n s k:Nat}(hn:1<=n/\n<=64)(hs:1<=s/\s<=9)(hk:k < m):P n s k=true:=by
 have h1:=List.all_eq_true.1 h (n - 1) (List.mem_range.2 (by omega));have h2:=List.all_eq_true.1 h1 (s - 1) (List.mem_range.2 (by omega));have h3:=List.all_eq_true.1 h2 k (List.mem_range.2 hk)
 rwa [show n - 1+1=n by omega,show s - 1+1=s by omega]at h3
theorem plA{n s:Nat}(hn:1<=n/\n<=64)(hs:1<=s/\s<=9):aVW (txA n s) n s:=by
 obtain⟨⟨q,e⟩,c⟩:=bC1 n s hn hs
 have hz:(txA n s).size<=4000:=by
  show(aVD++(fW n++(aVC++(fW n++(aVB++(fW s++(aVA))))))).length<=4000;simp only[List.length_append];have h1:=aUP n;have h2:=aUP (n - 1);have h3:=aUP s;have z0:aVD.length=6:=rfl;have z1:aVC.length=47:=rfl;have z2:aVB.length=39:=rfl;have z3:aVA.length=15:=rfl;omega
 have hr:rdT (txA n s)=(bP (tkA q n s)).2:=by unfold rdT;rw[e]
 have ht:siT (cR (rdT (txA n s))) (dY (rdT (txA n s))) []=trA q n s:=by rw[hr];exact aWM q n s
 have hl:(fS (txA n s)).length=2:=by unfold fS;rw[hr];exact bBY q n s
 refine⟨hz,?_,by rw[hl];decide,fun i hi=>?_,fun x=>?_⟩
 ·refine aVE hz c e (bC4 q n s) ?_;have h:=aUY (Q:=fun k=>(fO (bP (tkA q ((k+1:Nat):Int) s)).2 (txA n s).size).code) (bBS q s (txA n s).size) hn;have e1:n - 1+1=n:=by omega
  generalize hm:n - 1=m at*;subst e1;exact h
 ·rw[hl]at hi
  have hf:fN (rdT (txA n s))=flA q n s:=by
   unfold fN gG qO;rw[ht];rfl
  rw[hf];exact aV0 (P:=fun n s k=>flA q (n:Int) (s:Int) k) (aX4 q) hn hs hi
 ·unfold kM aFH;rw[ht,hr,bBV q n s,aSD];exact aWJ.at_ n (by omega) s hs q x
theorem plB{n s:Nat}(hn:1<=n/\n<=64)(hs:1<=s/\s<=9):aVW (txB n s) n s:=by
 obtain⟨⟨q,e⟩,c⟩:=bC0 n s hn hs
 have hz:(txB n s).size<=4000:=by
  show(aV9++(fW n++(aV8++(fW n++(aV7++(fW (n - 1)++(aV6++(fW s++(aV5))))))))).length<=4000;simp only[List.length_append];have h1:=aUP n;have h2:=aUP (n - 1);have h3:=aUP s;have z0:aV9.length=6:=rfl;have z1:aV8.length=32:=rfl;have z2:aV7.length=78:=rfl;have z3:aV6.length=29:=rfl;have z4:aV5.length=15:=rfl;omega
 have hr:rdT (txB n s)=(bP (tkB q n s)).2:=by unfold rdT;rw[e]
 have ht:siT (cR (rdT (txB n s))) (dY (rdT (txB n s))) []=trB q n s:=by rw[hr];exact aWL q n s
 have hl:(fS (txB n s)).length=3:=by unfold fS;rw[hr];exact bBX q n s
 refine⟨hz,?_,by rw[hl];decide,fun i hi=>?_,fun x=>?_⟩
 ·refine aVE hz c e (bC3 q n s) ?_;have h:=aUY (Q:=fun k=>(fO (bP (tkB q ((k+1:Nat):Int) s)).2 (txB n s).size).code) (bBR q s (txB n s).size) hn;have e1:n - 1+1=n:=by omega
  generalize hm:n - 1=m at*;subst e1;exact h
 ·rw[hl]at hi
  have hf:fN (rdT (txB n s))=flB q n s:=by
   unfold fN gG qO;rw[ht];rfl
  rw[hf];exact aV0 (P:=fun n s k=>flB q (n:Int) (s:Int) k) (aX3 q) hn hs hi
 ·unfold kM aFH;rw[ht,hr,bBU q n s,aSD];exact aWI.at_ n (by omega) s hs q x
theorem plC{n s:Nat}(hn:1<=n/\n<=64)(hs:1<=s/\s<=9):aVW (txC n s) n s:=by
 obtain⟨⟨q,e⟩,c⟩:=bBZ n s hn hs
 have hz:(txC n s).size<=4000:=by
  show(aV4++(fW n++(aV3++(fW n++(aV2++(fW s++(aV1))))))).length<=4000;simp only[List.length_append];have h1:=aUP n;have h2:=aUP (n - 1);have h3:=aUP s;have z0:aV4.length=6:=rfl;have z1:aV3.length=70:=rfl;have z2:aV2.length=8:=rfl;have z3:aV1.length=62:=rfl;omega
 have hr:rdT (txC n s)=(bP (tkC q n s)).2:=by unfold rdT;rw[e]
 have ht:siT (cR (rdT (txC n s))) (dY (rdT (txC n s))) []=trC q n s:=by rw[hr];exact aWK q n s
 have hl:(fS (txC n s)).length=3:=by unfold fS;rw[hr];exact bBW q n s
 refine⟨hz,?_,by rw[hl];decide,fun i hi=>?_,fun x=>?_⟩
 ·refine aVE hz c e (bC2 q n s) ?_;have h:=aUY (Q:=fun k=>(fO (bP (tkC q ((k+1:Nat):Int) s)).2 (txC n s).size).code) (bBQ q s (txC n s).size) hn;have e1:n - 1+1=n:=by omega
  generalize hm:n - 1=m at*;subst e1;exact h
 ·rw[hl]at hi
  have hf:fN (rdT (txC n s))=flC q n s:=by
   unfold fN gG qO;rw[ht];rfl
  rw[hf];exact aV0 (P:=fun n s k=>flC q (n:Int) (s:Int) k) (aX2 q) hn hs hi
 ·unfold kM aFH;rw[ht,hr,bBT q n s,aSD]
  by_cases h1:n<=22
  ·exact aWH.at_ n (by omega) s hs q x
  by_cases h2:n<=43
  ·exact aW5.at_ n (by omega) s hs q x
  ·exact aW4.at_ n (by omega) s hs q x
end Go.Proofs.YtikffmloeifkpaaGreatDoor
