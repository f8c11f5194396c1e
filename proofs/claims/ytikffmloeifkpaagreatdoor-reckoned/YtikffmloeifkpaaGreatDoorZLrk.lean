/- Contracts. -/
import Derived.Test.YtikffmloeifkpaaGreatDoorR22
import Derived.Test.YtikffmloeifkpaaGreatDoorR23
namespace Go.Proofs.YtikffmloeifkpaaGreatDoor
open Go.RowKit Go.Lib Go.Deep
def bDV:Tr->Option Tr
 | .node _ _ _ (.node _ _ _ (.node _ _ f p (.node _ _ _ .nil (.node _ _ x (.node _ _ y (.node _ _ z e .nil) .nil) .nil))) .nil) _=>
  if f.tag=17/\x.tag=20/\y.tag=15/\z.tag=13/\aD p=3 then some e else none
 |_=>none
def bE2(x:List Int × Rn):Rs4:=if x.2.fin=0 then⟨1,hd x.1,x.2.site,x.2.outs⟩else⟨x.2.fin,0,x.2.site,x.2.outs⟩
theorem bE0{T e:Tr}(h:bDV T=some e)(a b c:Int):∃ lens C,aTT T 0 [a,b,c] 9=bE2 (exW lens C (cI [a,b,c]) e ⟨fun _=>0,7,1,0,-1,[]⟩):=by
 unfold bDV at h
 split at h
 ·rename_i b1 o1 a1 b2 o2 a2 b3 o3 f p b4 o4 a4 b5 o5 x b6 o6 y b7 o7 z e' q
  split at h
  ·rename_i ht;obtain⟨h8,h7,h9,k0,hp⟩:=ht;simp only[Option.some.injEq]at h;subst h;obtain⟨M,hM⟩:∃ M:Tr,M= .node b3 o3 f p (.node b4 o4 a4 .nil (.node b5 o5 x (.node b6 o6 y (.node b7 o7 z e' .nil) .nil) .nil)):=⟨_,rfl⟩;rw[<-hM];have h3:bN M=17:=by rw[hM];exact h8
   have h5:gJ M=3:=by rw[hM];exact hp
   have h4:aU M= .nil:=by rw[hM];rfl
   have h6:bG M= .node b5 o5 x (.node b6 o6 y (.node b7 o7 z e' .nil) .nil) .nil:=by rw[hM];rfl
   refine⟨bCG [],clW (bCG []) [M] 9,?_⟩;rw[aSD]
   have e16:aF 16 (bCF (.node b1 o1 a1 (.node b2 o2 a2 M .nil) q))=[]:=by
    show(if bN M=16 then _ else _)=_;rw[if_neg (by omega)];rfl
   have e17:aF 17 (bCF (.node b1 o1 a1 (.node b2 o2 a2 M .nil) q))=[M]:=by
    show(if bN M=17 then _ else _)=_;rw[if_pos h3];rfl
   rw[e16,e17];unfold nE;have hn:[M].getD (0:Int).toNat .nil=M:=rfl
   rw[hn,h4,h5,if_neg (by
    intro h;rcases h with h|h
    ·exact h rfl
    ·cases h)]
   have hf:(min (max (9:Int) 0) 20000).toNat=9:=by decide
   rw[hf];dsimp only;rw[aT5 (by decide) (by rfl),h6]
   have h2:∀ m:Fm,stW (bCG []) (clW (bCG []) [M] 9) (.node b5 o5 x (.node b6 o6 y (.node b7 o7 z e' .nil) .nil) .nil) m=stW (bCG []) (clW (bCG []) [M] 9) (.node b6 o6 y (.node b7 o7 z e' .nil) .nil) m:=fun m=>by
    conv=>lhs;unfold stW
    rw[if_pos (.inl h7)]
   have h1:∀ m:Fm,stW (bCG []) (clW (bCG []) [M] 9) (.node b7 o7 z e' .nil) m={m with on:=false,value:=hd (exW (bCG []) (clW (bCG []) [M] 9) m.vars e' m.run).1,run:=(exW (bCG []) (clW (bCG []) [M] 9) m.vars e' m.run).2}:=fun m=>by
    conv=>lhs;unfold stW
    rw[if_neg (by omega),if_neg (by omega),if_neg (by omega),if_neg (by omega),if_neg (by omega),if_neg (by omega),if_pos k0]
   have h0:∀ m:Fm,m.run.burns=true->stW (bCG []) (clW (bCG []) [M] 9) (.node b6 o6 y (.node b7 o7 z e' .nil) .nil) m={m with on:=false,value:=hd (exW (bCG []) (clW (bCG []) [M] 9) m.vars e' m.run.burn).1,run:=(exW (bCG []) (clW (bCG []) [M] 9) m.vars e' m.run.burn).2}:=fun m hm=>by
    conv=>lhs;unfold stW
    rw[if_neg (by omega),if_pos h9,if_pos hm,h1];rfl
   rw[h2,h0 _ rfl];rfl
  ·cases h
 ·cases h
def eqE:Tr->Tr->Bool
 | .nil,.nil=>true
 | .node _ _ a l q,.node _ _ b m p=>a.tag==b.tag&&a.op==b.op&&a.which==b.which&&a.site==b.site&&a.val==b.val&&eqE l m&&eqE q p
 |_,_=>false
theorem bED{lens:Nat->Int}{C:Cl}{vars:Nat->Int}:∀ (t u:Tr),eqE t u=true->∀ r,exW lens C vars t r=exW lens C vars u r:=by
 intro t
 induction t with
 |nil=>
  intro u h r;cases u with
  |nil=>rfl
  |node=>cases h
 |node b o a l q ihl ihq=>
  intro u h r;cases u with
  |nil=>cases h
  |node b' o' a' m p=>
   have h:(a.tag==a'.tag&&a.op==a'.op&&a.which==a'.which&&a.site==a'.site&&a.val==a'.val&&eqE l m&&eqE q p)=true:=h;simp only[Bool.and_eq_true,beq_iff_eq]at h;obtain⟨⟨⟨⟨⟨⟨h1,h2⟩,h3⟩,h4⟩,h5⟩,h6⟩,h7⟩:=h;simp only[exW,h1,h2,h3,h4,h5,ihl m h6,ihq p h7]
def vE(k:Int):Tr:=mk {tag:=1,which:=k} .nil .nil
def bE(i s:Int)(l q:Tr):Tr:=mk {tag:=6,op:=27+i,site:=s} l q
def opW(i a b:Int):Int × Bool:=if 3<=i/\b=0 then(0,false)else(rJ (27+i) a b,true)
theorem bDZ{lens:Nat->Int}{C:Cl}{vars:Nat->Int}(k:Int)(r:Rn):exW lens C vars (vE k) r=([vars k.toNat],r):=rfl
theorem bE3{lens:Nat->Int}{C:Cl}{vars:Nat->Int}{i s x y:Int}{l q:Tr}{r r1 r2:Rn}(h1:exW lens C vars l r=([x],r1))(h2:exW lens C vars q r1=([y],r2)):exW lens C vars (bE i s l q) r=([(opW i x y).1],if(opW i x y).2 then r2 else r2.trap s):=by
 show(if 30<=27+i/\hd (exW lens C vars q (exW lens C vars l r).2).1=0 then _ else _)=_;rw[h1,h2];unfold opW;show(if 30<=27+i/\y=0 then([0],r2.trap s)else([rJ (27+i) x y],r2))=_
 by_cases h:3<=i/\y=0
 ·rw[if_pos h,if_pos ⟨by omega,h.2⟩];rfl
 ·rw[if_neg h,if_neg (fun k=>h ⟨by omega,k.2⟩)];rfl
def st1(i:Int):Int:=if 3<=i then 0 else -1
def st2(i j:Int):Int:=if 3<=j then(if 3<=i then 1 else 0)else -1
def teL(i j:Int):Tr:=bE j (st2 i j) (bE i (st1 i) (vE 0) (vE 1)) (vE 2)
def teR(i j:Int):Tr:=bE i (st1 i) (vE 0) (bE j (st2 i j) (vE 1) (vE 2))
def bDM(i:Int):Int:=if 3<=i then 1 else 0
def bDX(i j a b c:Int):Rs4:=if(opW i a b).2&&(opW j (opW i a b).1 c).2 then⟨1,(opW j (opW i a b).1 c).1,-1,[]⟩else⟨2,0,if(opW i a b).2 then bDM i else 0,[]⟩
def bDW(i j a b c:Int):Rs4:=if(opW j b c).2&&(opW i a (opW j b c).1).2 then⟨1,(opW i a (opW j b c).1).1,-1,[]⟩else⟨2,0,if(opW j b c).2 then 0 else bDM i,[]⟩
theorem bDR{i a b:Int}(h:(opW i a b).2=false):3<=i:=by
 unfold opW at h
 split at h
 ·rename_i k;exact k.1
 ·cases h
theorem bE6{lens:Nat->Int}{C:Cl}(i j a b c:Int):bE2 (exW lens C (cI [a,b,c]) (teL i j) ⟨fun _=>0,7,1,0,-1,[]⟩)=bDX i j a b c:=by
 unfold teL;rw[bE3 (bE3 (bDZ 0 _) (bDZ 1 _)) (bDZ 2 _)];have e0:cI [a,b,c] (0:Int).toNat=a:=rfl;have e1:cI [a,b,c] (1:Int).toNat=b:=rfl;have e2:cI [a,b,c] (2:Int).toNat=c:=rfl;rw[e0,e1,e2];unfold bDX;cases h1:(opW i a b).2
 ·have h3:=bDR h1;unfold st1;rw[if_pos h3];cases h2:(opW j (opW i a b).1 c).2<;>rfl
 ·cases h2:(opW j (opW i a b).1 c).2
  ·have h3:=bDR h2;unfold st2 bDM;rw[if_pos h3];rfl
  ·rfl
theorem bE5{lens:Nat->Int}{C:Cl}(i j a b c:Int):bE2 (exW lens C (cI [a,b,c]) (teR i j) ⟨fun _=>0,7,1,0,-1,[]⟩)=bDW i j a b c:=by
 unfold teR;rw[bE3 (bDZ 0 _) (bE3 (bDZ 1 _) (bDZ 2 _))];have e0:cI [a,b,c] (0:Int).toNat=a:=rfl;have e1:cI [a,b,c] (1:Int).toNat=b:=rfl;have e2:cI [a,b,c] (2:Int).toNat=c:=rfl;rw[e0,e1,e2];unfold bDW;cases h1:(opW j b c).2
 ·have h3:=bDR h1;unfold st2 bDM;rw[if_pos h3];cases h2:(opW i a (opW j b c).1).2<;>rfl
 ·cases h2:(opW i a (opW j b c).1).2
  ·have h3:=bDR h2;unfold st1;rw[if_pos h3];rfl
  ·rfl
def bDQ:Tr->Tr
 | .nil=> .nil
 | .node b o a l q=>if a.tag=4 then bDQ l else .node b o a (bDQ l) (bDQ q)
theorem bE1{lens:Nat->Int}{C:Cl}{vars:Nat->Int}:∀ (t:Tr) (r:Rn),exW lens C vars (bDQ t) r=exW lens C vars t r:=by
 intro t
 induction t with
 |nil=>intro r;rfl
 |node b o a l q ihl ihq=>
  intro r
  by_cases h:a.tag=4
  ·rw[show bDQ (.node b o a l q)=bDQ l from if_pos h,ihl];simp[exW,h]
  ·rw[show bDQ (.node b o a l q)= .node b o a (bDQ l) (bDQ q)from if_neg h];simp only[exW,ihl,ihq]
def bDY:ByteArray:={data:=#[43,45,42,47,37]}
def txA(i j:Nat):ByteArray:={data:=#[102,110,32,109,97,105,110,40,97,44,32,98,44,32,99,41,32,123,32,114,101,116,117,114,110,32,40,97,32]}++bDY.extract i (i+1)++{data:=#[32,98,41,32]}++bDY.extract j (j+1)++{data:=#[32,99,59,32,125]}
def txB(i j:Nat):ByteArray:={data:=#[102,110,32,109,97,105,110,40,97,44,32,98,44,32,99,41,32,123,32,114,101,116,117,114,110,32,97,32]}++bDY.extract i (i+1)++{data:=#[32,40,98,32]}++bDY.extract j (j+1)++{data:=#[32,99,41,59,32,125]}
def txC(i j:Nat):ByteArray:={data:=#[102,110,32,109,97,105,110,40,97,44,32,98,44,32,99,41,32,123,32,114,101,116,117,114,110,32,97,32]}++bDY.extract i (i+1)++{data:=#[32,98,32]}++bDY.extract j (j+1)++{data:=#[32,99,59,32,125]}
def bDU(s:ByteArray)(u:Tr):Bool:=eZ s==(0,0)&&qV (rdT s)==0&&decide (s.size<=100)&&(match bDV (aFH s)with
 |some e=>eqE (bDQ e) u
 |none=>false)
theorem bEC:∀ i,i < 5->∀ j,j < 5->bDU (txA i j) (teL i j)=true:=by decide+kernel
theorem bEB:∀ i,i < 5->∀ j,j < 5->bDU (txB i j) (teR i j)=true:=by decide+kernel
theorem bEA:∀ i,i < 5->∀ j,j < 5->bDU (txC i j) (if i < 2/\1 < j then teR i j else teL i j)=true:=by decide+kernel
theorem bDS{s:ByteArray}{u:Tr}(h:bDU s u=true)(a b c:Int):eZ s=(0,0)/\s.size<=100/\∃ lens C,kM s [a,b,c] 9=bE2 (exW lens C (cI [a,b,c]) u ⟨fun _=>0,7,1,0,-1,[]⟩):=by
 unfold bDU at h;simp only[Bool.and_eq_true,beq_iff_eq,decide_eq_true_eq]at h;obtain⟨⟨⟨h1,h2⟩,h3⟩,h4⟩:=h;refine⟨h1,h3,?_⟩
 split at h4
 ·rename_i e he;obtain⟨lens,C,hr⟩:=bE0 he a b c;refine⟨lens,C,?_⟩;unfold kM;rw[h2,hr,<-bE1 e,bED _ _ h4]
 ·cases h4
theorem bE9{i j:Nat}(hi:i < 5)(hj:j < 5)(a b c:Int):eZ (txA i j)=(0,0)/\(txA i j).size<=100/\kM (txA i j) [a,b,c] 9=bDX i j a b c:=by
 obtain⟨h1,h2,lens,C,h3⟩:=bDS (bEC i hi j hj) a b c;exact⟨h1,h2,h3.trans (bE6 _ _ _ _ _)⟩
theorem bE8{i j:Nat}(hi:i < 5)(hj:j < 5)(a b c:Int):eZ (txB i j)=(0,0)/\(txB i j).size<=100/\kM (txB i j) [a,b,c] 9=bDW i j a b c:=by
 obtain⟨h1,h2,lens,C,h3⟩:=bDS (bEB i hi j hj) a b c;exact⟨h1,h2,h3.trans (bE5 _ _ _ _ _)⟩
theorem bE7{i j:Nat}(hi:i < 5)(hj:j < 5)(a b c:Int):eZ (txC i j)=(0,0)/\(txC i j).size<=100/\kM (txC i j) [a,b,c] 9=if i < 2/\1 < j then bDW i j a b c else bDX i j a b c:=by
 obtain⟨h1,h2,lens,C,h3⟩:=bDS (bEA i hi j hj) a b c;refine⟨h1,h2,h3.trans ?_⟩
 split
 ·exact bE5 _ _ _ _ _
 ·exact bE6 _ _ _ _ _
end Go.Proofs.YtikffmloeifkpaaGreatDoor
