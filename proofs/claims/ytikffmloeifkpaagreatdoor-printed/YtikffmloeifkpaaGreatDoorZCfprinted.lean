/- Contracts. -/
import Derived.Test.YtikffmloeifkpaaGreatDoorQ25
namespace Go.Proofs.YtikffmloeifkpaaGreatDoor.printed
open Go.ChangeShapes Go.WideShapes Go.ChangeAt Go.RowKit
theorem aUG:(Rows.printedRow.wf (OpenSpec.ofChange (OpenSpec.ofChange Rows.printedSpec).bare))=true:=by kernel_rfl
theorem aGS:(Tryz.f10.params.all (Tryz.prog.readableRec ·))=true:=by kernel_rfl
theorem aU7:(namedTie Tryz.prog Rows.printedRow.named (OpenSpec.ofChange Rows.printedSpec).bare.vars)=true:=by kernel_rfl
theorem aR9:(Rows.printedRow.stops==[])=true:=by kernel_rfl
theorem aRB:(Rows.printedRow.knobs==[])=true:=by kernel_rfl
theorem aKQ:(Rows.printedRow.inPlace==Tryz.prog.inPlace 10)=true:=by kernel_rfl
theorem aCM:(Rows.printedRow.unfollowed==Tryz.prog.unfollowed 10)=true:=by kernel_rfl
theorem aGR:(Rows.printedRow.recurses==Tryz.prog.recurses 10)=true:=by kernel_rfl
theorem aF2:(Rows.printedRow.named==Tryz.prog.varsNamed 10)=true:=by kernel_rfl
theorem aTF:(Rows.printedRow.maps==(Tryz.f10.params.toList++(OpenSpec.ofChange Rows.printedSpec).bare.plain.varTypes Tryz.prog).any (Tryz.prog.mapsRec ·))=true:=by kernel_rfl
theorem aOS:(Rows.printedRow.ifaces==(Tryz.f10.params.toList++(OpenSpec.ofChange Rows.printedSpec).bare.plain.varTypes Tryz.prog).any (Tryz.prog.ifacesRec ·))=true:=by kernel_rfl
theorem aKP:(Rows.printedRow.mapsOut==Tryz.prog.mapsAmong Tryz.f10.resultTypes.toList)=true:=by kernel_rfl
theorem aRA:(Rows.printedRow.loops==(Tryz.f10.params.toList++(OpenSpec.ofChange Rows.printedSpec).bare.plain.varTypes Tryz.prog).any (Tryz.prog.loopsFrom ·))=true:=by kernel_rfl
theorem aGQ:(Rows.printedRow.wideKeys==(Tryz.f10.params.toList++(OpenSpec.ofChange Rows.printedSpec).bare.plain.varTypes Tryz.prog++Tryz.f10.resultTypes.toList).any (Tryz.prog.wideKeysFrom ·))=true:=by kernel_rfl
theorem aKN:((OpenSpec.ofChange Rows.printedSpec).bare.vars.all (Tryz.prog.varReadable ·))=true:=by kernel_rfl
theorem aKO:(Tryz.f10.resultTypes.all (fun t=>Tryz.prog.readableRec t&&decide (t < Tryz.prog.types.size)))=true:=by kernel_rfl
theorem aF4:(Rows.printedRow.ifacesOut==Tryz.f10.resultTypes.toList.any (Tryz.prog.ifacesRec ·))=true:=by kernel_rfl
theorem aGT:(Rows.printedRow.loopsOut==Tryz.f10.resultTypes.toList.any (Tryz.prog.loopsFrom ·))=true:=by kernel_rfl
theorem aF3:(Rows.printedRow.plainKeys==Tryz.prog.plainKeys)=true:=facts.plainKeys
theorem aCN:(Rows.printedRow.shortTexts.isNone)=true:=by kernel_rfl
theorem aOR:(Rows.printedRow.lifted==Tryz.prog.liftsFinal)=true:=facts.lifted
theorem aTG:(Tryz.prog.make==some Rows.printedRow.make)=true:=facts.make
theorem aRC:(Rows.printedRow.kinds==(if Rows.printedRow.domain.isEmpty then[]else Tryz.f10.params.toList.map fun t=>match Tryz.prog.underlying t with|some (.int k)=>some k|_=>none))=true:=by kernel_rfl
theorem aOQ:(Rows.printedRow.pinned==Rows.printedRow.pinnedBy)=true:=by kernel_rfl
theorem aOP:(Rows.printedRow.veiled==(Tryz.f10.params.toList++(OpenSpec.ofChange Rows.printedSpec).bare.plain.varTypes Tryz.prog++Tryz.f10.resultTypes.toList).any (Tryz.prog.veiledRec ·))=true:=by kernel_rfl
theorem aCL:(Rows.printedRow.veiledFits Tryz.prog Tryz.f10.params.toList (Tryz.f10.params.toList++(OpenSpec.ofChange Rows.printedSpec).bare.plain.varTypes Tryz.prog++Tryz.f10.resultTypes.toList))=true:=by kernel_rfl
end Go.Proofs.YtikffmloeifkpaaGreatDoor.printed
