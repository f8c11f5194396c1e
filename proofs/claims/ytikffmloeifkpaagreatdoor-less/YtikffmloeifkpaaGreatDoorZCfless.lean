/- Contracts. -/
import Derived.Test.YtikffmloeifkpaaGreatDoorL25
namespace Go.Proofs.YtikffmloeifkpaaGreatDoor.less
open Go.ChangeShapes Go.WideShapes Go.ChangeAt Go.RowKit
theorem aUG:(Rows.lessRow.wf (OpenSpec.ofChange (OpenSpec.ofChange Rows.lessSpec).bare))=true:=by kernel_rfl
theorem aGS:(Tryz.f5.params.all (Tryz.prog.readableRec ·))=true:=by kernel_rfl
theorem aU7:(namedTie Tryz.prog Rows.lessRow.named (OpenSpec.ofChange Rows.lessSpec).bare.vars)=true:=by kernel_rfl
theorem aR9:(Rows.lessRow.stops==[])=true:=by kernel_rfl
theorem aRB:(Rows.lessRow.knobs==[])=true:=by kernel_rfl
theorem aKQ:(Rows.lessRow.inPlace==Tryz.prog.inPlace 5)=true:=by kernel_rfl
theorem aCM:(Rows.lessRow.unfollowed==Tryz.prog.unfollowed 5)=true:=by kernel_rfl
theorem aGR:(Rows.lessRow.recurses==Tryz.prog.recurses 5)=true:=by kernel_rfl
theorem aF2:(Rows.lessRow.named==Tryz.prog.varsNamed 5)=true:=by kernel_rfl
theorem aTF:(Rows.lessRow.maps==(Tryz.f5.params.toList++(OpenSpec.ofChange Rows.lessSpec).bare.plain.varTypes Tryz.prog).any (Tryz.prog.mapsRec ·))=true:=by kernel_rfl
theorem aOS:(Rows.lessRow.ifaces==(Tryz.f5.params.toList++(OpenSpec.ofChange Rows.lessSpec).bare.plain.varTypes Tryz.prog).any (Tryz.prog.ifacesRec ·))=true:=by kernel_rfl
theorem aKP:(Rows.lessRow.mapsOut==Tryz.prog.mapsAmong Tryz.f5.resultTypes.toList)=true:=by kernel_rfl
theorem aRA:(Rows.lessRow.loops==(Tryz.f5.params.toList++(OpenSpec.ofChange Rows.lessSpec).bare.plain.varTypes Tryz.prog).any (Tryz.prog.loopsFrom ·))=true:=by kernel_rfl
theorem aGQ:(Rows.lessRow.wideKeys==(Tryz.f5.params.toList++(OpenSpec.ofChange Rows.lessSpec).bare.plain.varTypes Tryz.prog++Tryz.f5.resultTypes.toList).any (Tryz.prog.wideKeysFrom ·))=true:=by kernel_rfl
theorem aKN:((OpenSpec.ofChange Rows.lessSpec).bare.vars.all (Tryz.prog.varReadable ·))=true:=by kernel_rfl
theorem aKO:(Tryz.f5.resultTypes.all (fun t=>Tryz.prog.readableRec t&&decide (t < Tryz.prog.types.size)))=true:=by kernel_rfl
theorem aF4:(Rows.lessRow.ifacesOut==Tryz.f5.resultTypes.toList.any (Tryz.prog.ifacesRec ·))=true:=by kernel_rfl
theorem aGT:(Rows.lessRow.loopsOut==Tryz.f5.resultTypes.toList.any (Tryz.prog.loopsFrom ·))=true:=by kernel_rfl
theorem aF3:(Rows.lessRow.plainKeys==Tryz.prog.plainKeys)=true:=facts.plainKeys
theorem aCN:(Rows.lessRow.shortTexts.isNone)=true:=by kernel_rfl
theorem aOR:(Rows.lessRow.lifted==Tryz.prog.liftsFinal)=true:=facts.lifted
theorem aTG:(Tryz.prog.make==some Rows.lessRow.make)=true:=facts.make
theorem aRC:(Rows.lessRow.kinds==(if Rows.lessRow.domain.isEmpty then[]else Tryz.f5.params.toList.map fun t=>match Tryz.prog.underlying t with|some (.int k)=>some k|_=>none))=true:=by kernel_rfl
theorem aOQ:(Rows.lessRow.pinned==Rows.lessRow.pinnedBy)=true:=by kernel_rfl
theorem aOP:(Rows.lessRow.veiled==(Tryz.f5.params.toList++(OpenSpec.ofChange Rows.lessSpec).bare.plain.varTypes Tryz.prog++Tryz.f5.resultTypes.toList).any (Tryz.prog.veiledRec ·))=true:=by kernel_rfl
theorem aCL:(Rows.lessRow.veiledFits Tryz.prog Tryz.f5.params.toList (Tryz.f5.params.toList++(OpenSpec.ofChange Rows.lessSpec).bare.plain.varTypes Tryz.prog++Tryz.f5.resultTypes.toList))=true:=by kernel_rfl
end Go.Proofs.YtikffmloeifkpaaGreatDoor.less
