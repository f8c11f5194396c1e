/- Contracts. -/
import Derived.Test.YtikffmloeifkpaaGreatDoorQ24
import Derived.Test.YtikffmloeifkpaaGreatDoorCards
import Derived.Test.YtikffmloeifkpaaGreatDoorTie
import Derived.WalkKit
import Derived.ProofKit
import Derived.OpenShut
import Derived.Deep.DeepHandedRow
namespace Go.Proofs.YtikffmloeifkpaaGreatDoor
open Go.ChangeShapes Go.WideShapes Go.ChangeAt Go.RowKit
theorem own:ownKnob Tryz.prog.godebug=none:=by kernel_rfl
theorem laidOut:laidOutB Tryz.prog=true:=by kernel_rfl
theorem aUE:Tryz.prog.globalNamed "surefoot/words.spellings"=some 0:=by kernel_rfl
theorem aNU:(Tryz.prog.globals[0]?).map (·.type)=some 274:=by kernel_rfl
theorem aOM:Tryz.prog.cellsOf 9=1:=by kernel_rfl
theorem aM4:(Rows.laid_surefoot_words_spellings:DataW Unit)= .agg (spS.map fun l=> .lit (.string l)):=by kernel_rfl
theorem aSB{i:Nat}(h:i < 34):spS[i]?=some (spL i):=by
 have hl:spS.length=34:=Ob
 unfold spL;rw[List.getD_eq_getElem?_getD,List.getElem?_eq_getElem Oa];rfl
theorem aS9{s:ByteArray}{l:List UInt8}(h:s.data.toList=l):s=⟨l.toArray⟩:=by
 subst h;cases s;rfl
theorem aDB{W:World}(h:laidMetH Tryz.prog [("surefoot/words.spellings",Rows.laid_surefoot_words_spellings)] W):Tab W:=by
 rw[MakeChecks.laidMetH_plain _ _ _ (by kernel_rfl)]at h;obtain⟨ps,⟨g0,t0,cs0,f0,p0,q0,h4,h6,h5,h8,_,_⟩,_,_⟩:=h;obtain rfl:=Oq (aUE.symm.trans h4);obtain rfl:=Oq (aNU.symm.trans h6);obtain⟨xs,m1,rfl,h2,hlen,hn,h7⟩:=DataW.trod_array Tryz.underlying274 h8;rw[aM4]at h2;simp only[Prod.mk.injEq,DataW.agg.injEq]at h2;intro i hi;have h3:xs[i]?=some (xs[i]'Oa):=List.getElem?_eq_getElem Oa
 have h0:(xs[i]'Oa).1= .lit (.string (spL i)):=by
  have h1:=congrArg (fun l=>l[i]?) h2.1;simp only[List.getElem?_map,aSB hi,h3,Option.map_some,Option.some.injEq]at h1;exact h1.symm
 have he:=h7 i hi;rw[h3,aOM,Nat.mul_one]at he;obtain⟨s,e1,e2,_⟩:=DataW.trod_string Tryz.underlying9 he;rw[e2]at h0;simp only[DataW.lit.injEq,Lit.string.injEq]at h0;have hs:s=sp i:=aS9 h0;have hc:=World.var?_cell h4 h5 i;rw[hc,<-hs]
 have e3:(cs0.toList.drop i)[0]?=some (.string s):=by
  cases hq:cs0.toList.drop i with
  |nil=>rw[hq]at e1;simp at e1
  |cons a r=>
   rw[hq]at e1;simp only[List.take_succ_cons,List.take_zero,List.cons.injEq,and_true]at e1;rw[e1];rfl
 rw[List.getElem?_drop]at e3;simpa using e3
def bD7(w:World):World:=
 {w with heap:=w.heap.modify 0 fun
  | .cells _ t frozen=> .cells (spS.map fun l=>Value.string ⟨l.toArray⟩).toArray t frozen
  |o=>o}
theorem aDF{H:Type}{enc:TypeId × Value->H}{t:TypeId}(hr:Tryz.prog.readableRec t=true)(h0:t < Tryz.prog.types.size){W W':World}{v:Value}{d:DataW H}{p:List MemPlace}(h:DataW.Trod enc Tryz.prog W 0 (fun _=>true) true t v d p)(hb:Below W.heap.size W W')(h1:∀ x∈p,x.block < W.heap.size):
 DataW.Trod enc Tryz.prog W' 0 (fun b=>decide (b < W.heap.size)) true t v d p:=Below.trod laidOut hr h0 h hb h1
end Go.Proofs.YtikffmloeifkpaaGreatDoor
namespace Go.Proofs.YtikffmloeifkpaaGreatDoor.facts
open Go.ChangeShapes Go.WideShapes Go.ChangeAt Go.RowKit
theorem laidOut:(laidOutB Tryz.prog)=true:=by kernel_rfl
theorem mapsRowed:(mapsRowed Tryz.prog)=true:=by kernel_rfl
theorem pstops:(Tryz.prog.stops==[])=true:=by kernel_rfl
theorem pknobs:(Tryz.prog.stopKnobs==[])=true:=by kernel_rfl
theorem plainKeys:(Rows.lessRow.plainKeys==Tryz.prog.plainKeys)=true:=by kernel_rfl
theorem stopsHeard:(Tryz.prog.stopsHeard)=true:=by kernel_rfl
theorem mayEnter:(Tryz.prog.mayEnter)=true:=by kernel_rfl
theorem lifted:(Rows.lessRow.lifted==Tryz.prog.liftsFinal)=true:=by kernel_rfl
theorem make:(Tryz.prog.make==some Rows.lessRow.make)=true:=by kernel_rfl
end Go.Proofs.YtikffmloeifkpaaGreatDoor.facts
