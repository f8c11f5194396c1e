/- Contracts. -/
import Derived.Test.YtikffmloeifkpaaGreatDoorR15
import Derived.Test.YtikffmloeifkpaaGreatDoorCards
import Derived.Test.YtikffmloeifkpaaGreatDoorTie
import Derived.WalkKit
import Derived.ProofKit
import Derived.OpenShut
import Derived.Deep.DeepHandedRow
namespace Go.Proofs.YtikffmloeifkpaaGreatDoor
open Go.ChangeShapes Go.WideShapes Go.ChangeAt Go.RowKit
theorem own:ownKnob Tryz.prog.godebug=none:=by kernel_rfl
theorem laidOut:laidOutB Tryz.prog=true:=by kernel_rfl
theorem bAD:Tryz.prog.globalNamed "surefoot/words.spellings"=some 0:=by kernel_rfl
theorem aT6:(Tryz.prog.globals[0]?).map (·.type)=some 274:=by kernel_rfl
theorem aTS:Tryz.prog.cellsOf 9=1:=by kernel_rfl
theorem aR2:(Rows.laid_surefoot_words_spellings:DataW Unit)= .agg (spS.map fun l=> .lit (.string l)):=by kernel_rfl
theorem aXR{i:Nat}(h:i < 34):spS[i]?=some (spL i):=by
 have a:spS.length=34:=Ob
 unfold spL;rw[List.getD_eq_getElem?_getD,List.getElem?_eq_getElem Oa];rfl
theorem aXL{s:ByteArray}{l:List UInt8}(h:s.data.toList=l):s=⟨l.toArray⟩:=by
 subst h;cases s;rfl
theorem aHS{W:World}(h:laidMetH Tryz.prog [("surefoot/words.spellings",Rows.laid_surefoot_words_spellings)] W):Tab W:=by
 rw[MakeChecks.laidMetH_plain _ _ _ (by kernel_rfl)]at h;obtain⟨ps,⟨g0,t0,d,f0,p0,y,j,o,n,q,_,_⟩,_,_⟩:=h;obtain rfl:=Oq (bAD.symm.t j);obtain rfl:=Oq (aT6.symm.t o);obtain⟨c,x,rfl,b,v,w,p⟩:=DataW.trod_array Tryz.underlying274 q;rw[aR2]at b;simp only[Prod.mk.injEq,DataW.agg.injEq]at b;intro i hi;have g:c[i]?=some (c[i]'Oa):=List.getElem?_eq_getElem Oa
 have h0:(c[i]'Oa).1= .lit (.string (spL i)):=by
  have f:=congrArg (fun l=>l[i]?) b.1;simp only[List.getElem?_map,aXR hi,g,Option.map_some,Option.some.injEq]at f;exact f.symm
 have k:=p i hi;rw[g,aTS,Nat.mul_one]at k;obtain⟨s,e1,m,_⟩:=DataW.trod_string Tryz.underlying9 k;rw[m]at h0;simp only[DataW.lit.injEq,Lit.string.injEq]at h0;have u:s=sp i:=aXL h0;have t:=World.var?_cell j n i;rw[t,<-u]
 have e:(d.toList.drop i)[0]?=some (.string s):=by
  cases hq:d.toList.drop i with
  |nil=>rw[hq]at e1;simp at e1
  |cons a r=>
   rw[hq]at e1;simp only[List.take_succ_cons,List.take_zero,List.cons.injEq,and_true]at e1;rw[e1];rfl
 rw[List.getElem?_drop]at e;simpa using e
def aL5(w:World):World:=
 {w with heap:=w.1.modify 0 fun
  | .cells _ t frozen=> .cells (spS.map fun l=>Value.string ⟨l.toArray⟩).toArray t frozen
  |o=>o}
end Go.Proofs.YtikffmloeifkpaaGreatDoor
namespace Go.Proofs.YtikffmloeifkpaaGreatDoor.facts
open Go.ChangeShapes Go.WideShapes Go.ChangeAt Go.RowKit
theorem laidOut:(laidOutB Tryz.prog)=true:=by kernel_rfl
theorem mapsRowed:(mapsRowed Tryz.prog)=true:=by kernel_rfl
theorem pstops:(Tryz.prog.stops==[])=true:=by kernel_rfl
theorem pknobs:(Tryz.prog.stopKnobs==[])=true:=by kernel_rfl
theorem plainKeys:(Rows.lessRow.plainKeys==Tryz.prog.plainKeys)=true:=by kernel_rfl
theorem stopsHeard:(Tryz.prog.stopsHeard)=true:=by kernel_rfl
theorem mayEnter:(Tryz.prog.mayEnter)=true:=by kernel_rfl
theorem lifted:(Rows.lessRow.lifted==Tryz.prog.liftsFinal)=true:=by kernel_rfl
theorem make:(Tryz.prog.make==some Rows.lessRow.make)=true:=by kernel_rfl
end Go.Proofs.YtikffmloeifkpaaGreatDoor.facts
