/- Contracts. -/
import Derived.Test.YtikffmloeifkpaaGreatDoorR20
namespace Go.Proofs.YtikffmloeifkpaaGreatDoor.reads
open Go.ChangeShapes Go.WideShapes Go.ChangeAt Go.RowKit
theorem aUG:(Rows.readsRow.wf (OpenSpec.ofChange (OpenSpec.ofChange Rows.readsSpec).bare))=true:=by kernel_rfl
theorem aGS:(Tryz.f3.params.all (Tryz.prog.readableRec ·))=true:=by kernel_rfl
theorem aU7:(namedTie Tryz.prog Rows.readsRow.named (OpenSpec.ofChange Rows.readsSpec).bare.vars)=true:=by kernel_rfl
theorem aR9:(Rows.readsRow.stops==[])=true:=by kernel_rfl
theorem aRB:(Rows.readsRow.knobs==[])=true:=by kernel_rfl
theorem aKQ:(Rows.readsRow.inPlace==Tryz.prog.inPlace 3)=true:=by kernel_rfl
theorem aCM:(Rows.readsRow.unfollowed==Tryz.prog.unfollowed 3)=true:=by kernel_rfl
theorem aGR:(Rows.readsRow.recurses==Tryz.prog.recurses 3)=true:=by kernel_rfl
theorem aF2:(Rows.readsRow.named==Tryz.prog.varsNamed 3)=true:=by kernel_rfl
theorem aTF:(Rows.readsRow.maps==(Tryz.f3.params.toList++(OpenSpec.ofChange Rows.readsSpec).bare.plain.varTypes Tryz.prog).any (Tryz.prog.mapsRec ·))=true:=by kernel_rfl
theorem aOS:(Rows.readsRow.ifaces==(Tryz.f3.params.toList++(OpenSpec.ofChange Rows.readsSpec).bare.plain.varTypes Tryz.prog).any (Tryz.prog.ifacesRec ·))=true:=by kernel_rfl
theorem aKP:(Rows.readsRow.mapsOut==Tryz.prog.mapsAmong Tryz.f3.resultTypes.toList)=true:=by kernel_rfl
theorem aRA:(Rows.readsRow.loops==(Tryz.f3.params.toList++(OpenSpec.ofChange Rows.readsSpec).bare.plain.varTypes Tryz.prog).any (Tryz.prog.loopsFrom ·))=true:=by kernel_rfl
theorem aGQ:(Rows.readsRow.wideKeys==(Tryz.f3.params.toList++(OpenSpec.ofChange Rows.readsSpec).bare.plain.varTypes Tryz.prog++Tryz.f3.resultTypes.toList).any (Tryz.prog.wideKeysFrom ·))=true:=by kernel_rfl
theorem aKN:((OpenSpec.ofChange Rows.readsSpec).bare.vars.all (Tryz.prog.varReadable ·))=true:=by kernel_rfl
theorem aKO:(Tryz.f3.resultTypes.all (fun t=>Tryz.prog.readableRec t&&decide (t < Tryz.prog.types.size)))=true:=by kernel_rfl
theorem aF4:(Rows.readsRow.ifacesOut==Tryz.f3.resultTypes.toList.any (Tryz.prog.ifacesRec ·))=true:=by kernel_rfl
theorem aGT:(Rows.readsRow.loopsOut==Tryz.f3.resultTypes.toList.any (Tryz.prog.loopsFrom ·))=true:=by kernel_rfl
theorem aF3:(Rows.readsRow.plainKeys==Tryz.prog.plainKeys)=true:=facts.plainKeys
theorem aCN:(Rows.readsRow.shortTexts.isNone)=true:=by kernel_rfl
theorem aOR:(Rows.readsRow.lifted==Tryz.prog.liftsFinal)=true:=facts.lifted
theorem aTG:(Tryz.prog.make==some Rows.readsRow.make)=true:=facts.make
theorem aRC:(Rows.readsRow.kinds==(if Rows.readsRow.domain.isEmpty then[]else Tryz.f3.params.toList.map fun t=>match Tryz.prog.underlying t with|some (.int k)=>some k|_=>none))=true:=by kernel_rfl
theorem aOQ:(Rows.readsRow.pinned==Rows.readsRow.pinnedBy)=true:=by kernel_rfl
theorem aOP:(Rows.readsRow.veiled==(Tryz.f3.params.toList++(OpenSpec.ofChange Rows.readsSpec).bare.plain.varTypes Tryz.prog++Tryz.f3.resultTypes.toList).any (Tryz.prog.veiledRec ·))=true:=by kernel_rfl
theorem aCL:(Rows.readsRow.veiledFits Tryz.prog Tryz.f3.params.toList (Tryz.f3.params.toList++(OpenSpec.ofChange Rows.readsSpec).bare.plain.varTypes Tryz.prog++Tryz.f3.resultTypes.toList))=true:=by kernel_rfl
end Go.Proofs.YtikffmloeifkpaaGreatDoor.reads
