/- Contracts. -/
import Derived.Test.YtikffmloeifkpaaGreatDoorP25
namespace Go.Proofs.YtikffmloeifkpaaGreatDoor.plain
open Go.ChangeShapes Go.WideShapes Go.ChangeAt Go.RowKit
theorem aUG:(Rows.plainRow.wf (OpenSpec.ofChange (OpenSpec.ofChange Rows.plainSpec).bare))=true:=by kernel_rfl
theorem aGS:(Tryz.f9.params.all (Tryz.prog.readableRec ·))=true:=by kernel_rfl
theorem aU7:(namedTie Tryz.prog Rows.plainRow.named (OpenSpec.ofChange Rows.plainSpec).bare.vars)=true:=by kernel_rfl
theorem aR9:(Rows.plainRow.stops==[])=true:=by kernel_rfl
theorem aRB:(Rows.plainRow.knobs==[])=true:=by kernel_rfl
theorem aKQ:(Rows.plainRow.inPlace==Tryz.prog.inPlace 9)=true:=by kernel_rfl
theorem aCM:(Rows.plainRow.unfollowed==Tryz.prog.unfollowed 9)=true:=by kernel_rfl
theorem aGR:(Rows.plainRow.recurses==Tryz.prog.recurses 9)=true:=by kernel_rfl
theorem aF2:(Rows.plainRow.named==Tryz.prog.varsNamed 9)=true:=by kernel_rfl
theorem aTF:(Rows.plainRow.maps==(Tryz.f9.params.toList++(OpenSpec.ofChange Rows.plainSpec).bare.plain.varTypes Tryz.prog).any (Tryz.prog.mapsRec ·))=true:=by kernel_rfl
theorem aOS:(Rows.plainRow.ifaces==(Tryz.f9.params.toList++(OpenSpec.ofChange Rows.plainSpec).bare.plain.varTypes Tryz.prog).any (Tryz.prog.ifacesRec ·))=true:=by kernel_rfl
theorem aKP:(Rows.plainRow.mapsOut==Tryz.prog.mapsAmong Tryz.f9.resultTypes.toList)=true:=by kernel_rfl
theorem aRA:(Rows.plainRow.loops==(Tryz.f9.params.toList++(OpenSpec.ofChange Rows.plainSpec).bare.plain.varTypes Tryz.prog).any (Tryz.prog.loopsFrom ·))=true:=by kernel_rfl
theorem aGQ:(Rows.plainRow.wideKeys==(Tryz.f9.params.toList++(OpenSpec.ofChange Rows.plainSpec).bare.plain.varTypes Tryz.prog++Tryz.f9.resultTypes.toList).any (Tryz.prog.wideKeysFrom ·))=true:=by kernel_rfl
theorem aKN:((OpenSpec.ofChange Rows.plainSpec).bare.vars.all (Tryz.prog.varReadable ·))=true:=by kernel_rfl
theorem aKO:(Tryz.f9.resultTypes.all (fun t=>Tryz.prog.readableRec t&&decide (t < Tryz.prog.types.size)))=true:=by kernel_rfl
theorem aF4:(Rows.plainRow.ifacesOut==Tryz.f9.resultTypes.toList.any (Tryz.prog.ifacesRec ·))=true:=by kernel_rfl
theorem aGT:(Rows.plainRow.loopsOut==Tryz.f9.resultTypes.toList.any (Tryz.prog.loopsFrom ·))=true:=by kernel_rfl
theorem aF3:(Rows.plainRow.plainKeys==Tryz.prog.plainKeys)=true:=facts.plainKeys
theorem aCN:(Rows.plainRow.shortTexts.isNone)=true:=by kernel_rfl
theorem aOR:(Rows.plainRow.lifted==Tryz.prog.liftsFinal)=true:=facts.lifted
theorem aTG:(Tryz.prog.make==some Rows.plainRow.make)=true:=facts.make
theorem aRC:(Rows.plainRow.kinds==(if Rows.plainRow.domain.isEmpty then[]else Tryz.f9.params.toList.map fun t=>match Tryz.prog.underlying t with|some (.int k)=>some k|_=>none))=true:=by kernel_rfl
theorem aOQ:(Rows.plainRow.pinned==Rows.plainRow.pinnedBy)=true:=by kernel_rfl
theorem aOP:(Rows.plainRow.veiled==(Tryz.f9.params.toList++(OpenSpec.ofChange Rows.plainSpec).bare.plain.varTypes Tryz.prog++Tryz.f9.resultTypes.toList).any (Tryz.prog.veiledRec ·))=true:=by kernel_rfl
theorem aCL:(Rows.plainRow.veiledFits Tryz.prog Tryz.f9.params.toList (Tryz.f9.params.toList++(OpenSpec.ofChange Rows.plainSpec).bare.plain.varTypes Tryz.prog++Tryz.f9.resultTypes.toList))=true:=by kernel_rfl
end Go.Proofs.YtikffmloeifkpaaGreatDoor.plain
