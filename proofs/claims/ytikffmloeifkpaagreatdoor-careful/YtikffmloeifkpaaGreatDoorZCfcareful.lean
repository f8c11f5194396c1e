/- Contracts. -/
import Derived.Test.YtikffmloeifkpaaGreatDoorM25
namespace Go.Proofs.YtikffmloeifkpaaGreatDoor.careful
open Go.ChangeShapes Go.WideShapes Go.ChangeAt Go.RowKit
theorem aUG:(Rows.carefulRow.wf (OpenSpec.ofChange (OpenSpec.ofChange Rows.carefulSpec).bare))=true:=by kernel_rfl
theorem aGS:(Tryz.f8.params.all (Tryz.prog.readableRec ·))=true:=by kernel_rfl
theorem aU7:(namedTie Tryz.prog Rows.carefulRow.named (OpenSpec.ofChange Rows.carefulSpec).bare.vars)=true:=by kernel_rfl
theorem aR9:(Rows.carefulRow.stops==[])=true:=by kernel_rfl
theorem aRB:(Rows.carefulRow.knobs==[])=true:=by kernel_rfl
theorem aKQ:(Rows.carefulRow.inPlace==Tryz.prog.inPlace 8)=true:=by kernel_rfl
theorem aCM:(Rows.carefulRow.unfollowed==Tryz.prog.unfollowed 8)=true:=by kernel_rfl
theorem aGR:(Rows.carefulRow.recurses==Tryz.prog.recurses 8)=true:=by kernel_rfl
theorem aF2:(Rows.carefulRow.named==Tryz.prog.varsNamed 8)=true:=by kernel_rfl
theorem aTF:(Rows.carefulRow.maps==(Tryz.f8.params.toList++(OpenSpec.ofChange Rows.carefulSpec).bare.plain.varTypes Tryz.prog).any (Tryz.prog.mapsRec ·))=true:=by kernel_rfl
theorem aOS:(Rows.carefulRow.ifaces==(Tryz.f8.params.toList++(OpenSpec.ofChange Rows.carefulSpec).bare.plain.varTypes Tryz.prog).any (Tryz.prog.ifacesRec ·))=true:=by kernel_rfl
theorem aKP:(Rows.carefulRow.mapsOut==Tryz.prog.mapsAmong Tryz.f8.resultTypes.toList)=true:=by kernel_rfl
theorem aRA:(Rows.carefulRow.loops==(Tryz.f8.params.toList++(OpenSpec.ofChange Rows.carefulSpec).bare.plain.varTypes Tryz.prog).any (Tryz.prog.loopsFrom ·))=true:=by kernel_rfl
theorem aGQ:(Rows.carefulRow.wideKeys==(Tryz.f8.params.toList++(OpenSpec.ofChange Rows.carefulSpec).bare.plain.varTypes Tryz.prog++Tryz.f8.resultTypes.toList).any (Tryz.prog.wideKeysFrom ·))=true:=by kernel_rfl
theorem aKN:((OpenSpec.ofChange Rows.carefulSpec).bare.vars.all (Tryz.prog.varReadable ·))=true:=by kernel_rfl
theorem aKO:(Tryz.f8.resultTypes.all (fun t=>Tryz.prog.readableRec t&&decide (t < Tryz.prog.types.size)))=true:=by kernel_rfl
theorem aF4:(Rows.carefulRow.ifacesOut==Tryz.f8.resultTypes.toList.any (Tryz.prog.ifacesRec ·))=true:=by kernel_rfl
theorem aGT:(Rows.carefulRow.loopsOut==Tryz.f8.resultTypes.toList.any (Tryz.prog.loopsFrom ·))=true:=by kernel_rfl
theorem aF3:(Rows.carefulRow.plainKeys==Tryz.prog.plainKeys)=true:=facts.plainKeys
theorem aCN:(Rows.carefulRow.shortTexts.isNone)=true:=by kernel_rfl
theorem aOR:(Rows.carefulRow.lifted==Tryz.prog.liftsFinal)=true:=facts.lifted
theorem aTG:(Tryz.prog.make==some Rows.carefulRow.make)=true:=facts.make
theorem aRC:(Rows.carefulRow.kinds==(if Rows.carefulRow.domain.isEmpty then[]else Tryz.f8.params.toList.map fun t=>match Tryz.prog.underlying t with|some (.int k)=>some k|_=>none))=true:=by kernel_rfl
theorem aOQ:(Rows.carefulRow.pinned==Rows.carefulRow.pinnedBy)=true:=by kernel_rfl
theorem aOP:(Rows.carefulRow.veiled==(Tryz.f8.params.toList++(OpenSpec.ofChange Rows.carefulSpec).bare.plain.varTypes Tryz.prog++Tryz.f8.resultTypes.toList).any (Tryz.prog.veiledRec ·))=true:=by kernel_rfl
theorem aCL:(Rows.carefulRow.veiledFits Tryz.prog Tryz.f8.params.toList (Tryz.f8.params.toList++(OpenSpec.ofChange Rows.carefulSpec).bare.plain.varTypes Tryz.prog++Tryz.f8.resultTypes.toList))=true:=by kernel_rfl
end Go.Proofs.YtikffmloeifkpaaGreatDoor.careful
