/- Contracts. -/
import Derived.Test.YtikffmloeifkpaaGreatDoorR19
import Derived.Test.YtikffmloeifkpaaGreatDoorCards
import Derived.Test.YtikffmloeifkpaaGreatDoorTie
import Derived.WalkKit
import Derived.ProofKit
import Derived.OpenShut
import Derived.Deep.DeepHandedRow
namespace Go.Proofs.YtikffmloeifkpaaGreatDoor
open Go.ChangeShapes Go.WideShapes Go.ChangeAt Go.RowKit
theorem own:ownKnob Tryz.prog.godebug=none:=by kernel_rfl
theorem laidOut:laidOutB Tryz.prog=true:=by kernel_rfl
theorem aUE:Tryz.prog.globalNamed "surefoot/words.spellings"=some 0:=by kernel_rfl
theorem aNU:(Tryz.prog.globals[0]?).map (·.type)=some 274:=by kernel_rfl
theorem aOM:Tryz.prog.cellsOf 9=1:=by kernel_rfl
theorem aM4:(Rows.laid_surefoot_words_spellings:DataW Unit)= .agg (spS.map fun l=> .lit (.string l)):=by kernel_rfl
theorem aSB{i:Nat}(h:i < 34):spS[i]?=some (spL i):=by
 have a:spS.length=34:=Ob
 unfold spL;rw[List.getD_eq_getElem?_getD,List.getElem?_eq_getElem Oa];rfl
theorem aS9{s:ByteArray}{l:List UInt8}(h:s.data.toList=l):s=⟨l.toArray⟩:=by
 subst h;cases s;rfl
theorem aDB{W:World}(h:laidMetH Tryz.prog [("surefoot/words.spellings",Rows.laid_surefoot_words_spellings)] W):Tab W:=by
 rw[MakeChecks.laidMetH_plain _ _ _ (by kernel_rfl)]at h;obtain⟨ps,⟨g0,C,f,f0,A,B,m,q,p,u,_,_⟩,_,_⟩:=h;obtain rfl:=Oq (aUE.symm.t m);obtain rfl:=Oq (aNU.symm.t q);obtain⟨e,z,rfl,d,x,y,t⟩:=DataW.trod_array Tryz.underlying274 u;rw[aM4]at d;simp only[Prod.mk.injEq,DataW.agg.injEq]at d;intro i hi;have k:e[i]?=some (e[i]'Oa):=List.getElem?_eq_getElem Oa
 have c:(e[i]'Oa).1= .lit (.string (spL i)):=by
  have j:=congrArg (fun l=>l[i]?) d.1;simp only[List.getElem?_map,aSB hi,k,Option.map_some,Option.some.injEq]at j;exact j.symm
 have n:=t i hi;rw[k,aOM,Nat.mul_one]at n;obtain⟨s,b,o,_⟩:=DataW.trod_string Tryz.underlying9 n;rw[o]at c;simp only[DataW.lit.injEq,Lit.string.injEq]at c;have w:s=sp i:=aS9 c;have v:=World.var?_cell m p i;rw[v,<-w]
 have g:(f.toList.drop i)[0]?=some (.string s):=by
  cases hq:f.toList.drop i with
  |nil=>rw[hq]at b;simp at b
  |cons a r=>
   rw[hq]at b;simp only[List.take_succ_cons,List.take_zero,List.cons.injEq,and_true]at b;rw[b];rfl
 rw[List.getElem?_drop]at g;simpa using g
def bD7(w:World):World:=
 {w with heap:=w.1.modify 0 fun
  | .cells _ t frozen=> .cells (spS.map fun l=>Value.string ⟨l.toArray⟩).toArray t frozen
  |o=>o}
end Go.Proofs.YtikffmloeifkpaaGreatDoor
namespace Go.Proofs.YtikffmloeifkpaaGreatDoor.facts
open Go.ChangeShapes Go.WideShapes Go.ChangeAt Go.RowKit
theorem laidOut:(laidOutB Tryz.prog)=true:=by kernel_rfl
theorem mapsRowed:(mapsRowed Tryz.prog)=true:=by kernel_rfl
theorem pstops:(Tryz.prog.stops==[])=true:=by kernel_rfl
theorem pknobs:(Tryz.prog.stopKnobs==[])=true:=by kernel_rfl
theorem plainKeys:(Rows.lessRow.plainKeys==Tryz.prog.plainKeys)=true:=by kernel_rfl
theorem stopsHeard:(Tryz.prog.stopsHeard)=true:=by kernel_rfl
theorem mayEnter:(Tryz.prog.mayEnter)=true:=by kernel_rfl
theorem lifted:(Rows.lessRow.lifted==Tryz.prog.liftsFinal)=true:=by kernel_rfl
theorem make:(Tryz.prog.make==some Rows.lessRow.make)=true:=by kernel_rfl
end Go.Proofs.YtikffmloeifkpaaGreatDoor.facts
