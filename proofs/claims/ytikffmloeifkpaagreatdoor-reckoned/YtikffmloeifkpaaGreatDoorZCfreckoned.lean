/- Contracts. -/
import Derived.Test.YtikffmloeifkpaaGreatDoorR25
namespace Go.Proofs.YtikffmloeifkpaaGreatDoor.reckoned
open Go.ChangeShapes Go.WideShapes Go.ChangeAt Go.RowKit
theorem aUG:(Rows.reckonedRow.wf (OpenSpec.ofChange (OpenSpec.ofChange Rows.reckonedSpec).bare))=true:=by kernel_rfl
theorem aGS:(Tryz.f6.params.all (Tryz.prog.readableRec ·))=true:=by kernel_rfl
theorem aU7:(namedTie Tryz.prog Rows.reckonedRow.named (OpenSpec.ofChange Rows.reckonedSpec).bare.vars)=true:=by kernel_rfl
theorem aR9:(Rows.reckonedRow.stops==[])=true:=by kernel_rfl
theorem aRB:(Rows.reckonedRow.knobs==[])=true:=by kernel_rfl
theorem aKQ:(Rows.reckonedRow.inPlace==Tryz.prog.inPlace 6)=true:=by kernel_rfl
theorem aCM:(Rows.reckonedRow.unfollowed==Tryz.prog.unfollowed 6)=true:=by kernel_rfl
theorem aGR:(Rows.reckonedRow.recurses==Tryz.prog.recurses 6)=true:=by kernel_rfl
theorem aF2:(Rows.reckonedRow.named==Tryz.prog.varsNamed 6)=true:=by kernel_rfl
theorem aTF:(Rows.reckonedRow.maps==(Tryz.f6.params.toList++(OpenSpec.ofChange Rows.reckonedSpec).bare.plain.varTypes Tryz.prog).any (Tryz.prog.mapsRec ·))=true:=by kernel_rfl
theorem aOS:(Rows.reckonedRow.ifaces==(Tryz.f6.params.toList++(OpenSpec.ofChange Rows.reckonedSpec).bare.plain.varTypes Tryz.prog).any (Tryz.prog.ifacesRec ·))=true:=by kernel_rfl
theorem aKP:(Rows.reckonedRow.mapsOut==Tryz.prog.mapsAmong Tryz.f6.resultTypes.toList)=true:=by kernel_rfl
theorem aRA:(Rows.reckonedRow.loops==(Tryz.f6.params.toList++(OpenSpec.ofChange Rows.reckonedSpec).bare.plain.varTypes Tryz.prog).any (Tryz.prog.loopsFrom ·))=true:=by kernel_rfl
theorem aGQ:(Rows.reckonedRow.wideKeys==(Tryz.f6.params.toList++(OpenSpec.ofChange Rows.reckonedSpec).bare.plain.varTypes Tryz.prog++Tryz.f6.resultTypes.toList).any (Tryz.prog.wideKeysFrom ·))=true:=by kernel_rfl
theorem aKN:((OpenSpec.ofChange Rows.reckonedSpec).bare.vars.all (Tryz.prog.varReadable ·))=true:=by kernel_rfl
theorem aKO:(Tryz.f6.resultTypes.all (fun t=>Tryz.prog.readableRec t&&decide (t < Tryz.prog.types.size)))=true:=by kernel_rfl
theorem aF4:(Rows.reckonedRow.ifacesOut==Tryz.f6.resultTypes.toList.any (Tryz.prog.ifacesRec ·))=true:=by kernel_rfl
theorem aGT:(Rows.reckonedRow.loopsOut==Tryz.f6.resultTypes.toList.any (Tryz.prog.loopsFrom ·))=true:=by kernel_rfl
theorem aF3:(Rows.reckonedRow.plainKeys==Tryz.prog.plainKeys)=true:=facts.plainKeys
theorem aCN:(Rows.reckonedRow.shortTexts.isNone)=true:=by kernel_rfl
theorem aOR:(Rows.reckonedRow.lifted==Tryz.prog.liftsFinal)=true:=facts.lifted
theorem aTG:(Tryz.prog.make==some Rows.reckonedRow.make)=true:=facts.make
theorem aRC:(Rows.reckonedRow.kinds==(if Rows.reckonedRow.domain.isEmpty then[]else Tryz.f6.params.toList.map fun t=>match Tryz.prog.underlying t with|some (.int k)=>some k|_=>none))=true:=by kernel_rfl
theorem aOQ:(Rows.reckonedRow.pinned==Rows.reckonedRow.pinnedBy)=true:=by kernel_rfl
theorem aOP:(Rows.reckonedRow.veiled==(Tryz.f6.params.toList++(OpenSpec.ofChange Rows.reckonedSpec).bare.plain.varTypes Tryz.prog++Tryz.f6.resultTypes.toList).any (Tryz.prog.veiledRec ·))=true:=by kernel_rfl
theorem aCL:(Rows.reckonedRow.veiledFits Tryz.prog Tryz.f6.params.toList (Tryz.f6.params.toList++(OpenSpec.ofChange Rows.reckonedSpec).bare.plain.varTypes Tryz.prog++Tryz.f6.resultTypes.toList))=true:=by kernel_rfl
end Go.Proofs.YtikffmloeifkpaaGreatDoor.reckoned
