/- Contracts. -/
import Derived.Test.YtikffmloeifkpaaGreatDoorR16
namespace Go.Proofs.YtikffmloeifkpaaGreatDoor.reads
open Go.ChangeShapes Go.WideShapes Go.ChangeAt Go.RowKit
theorem bAN:(Rows.readsRow.wf (OpenSpec.ofChange (OpenSpec.ofChange Rows.readsSpec).bare))=true:=by kernel_rfl
theorem aLQ:(Tryz.f3.params.all (Tryz.prog.readableRec ·))=true:=by kernel_rfl
theorem bA2:(namedTie Tryz.prog Rows.readsRow.named (OpenSpec.ofChange Rows.readsSpec).bare.vars)=true:=by kernel_rfl
theorem aW8:(Rows.readsRow.stops==[])=true:=by kernel_rfl
theorem aWA:(Rows.readsRow.knobs==[])=true:=by kernel_rfl
theorem aPU:(Rows.readsRow.inPlace==Tryz.prog.inPlace 3)=true:=by kernel_rfl
theorem aH8:(Rows.readsRow.unfollowed==Tryz.prog.unfollowed 3)=true:=by kernel_rfl
theorem aLP:(Rows.readsRow.recurses==Tryz.prog.recurses 3)=true:=by kernel_rfl
theorem aJI:(Rows.readsRow.named==Tryz.prog.varsNamed 3)=true:=by kernel_rfl
theorem aYV:(Rows.readsRow.maps==(Tryz.f3.params.toList++(OpenSpec.ofChange Rows.readsSpec).bare.plain.varTypes Tryz.prog).any (Tryz.prog.mapsRec ·))=true:=by kernel_rfl
theorem aTX:(Rows.readsRow.ifaces==(Tryz.f3.params.toList++(OpenSpec.ofChange Rows.readsSpec).bare.plain.varTypes Tryz.prog).any (Tryz.prog.ifacesRec ·))=true:=by kernel_rfl
theorem aPT:(Rows.readsRow.mapsOut==Tryz.prog.mapsAmong Tryz.f3.resultTypes.toList)=true:=by kernel_rfl
theorem aW9:(Rows.readsRow.loops==(Tryz.f3.params.toList++(OpenSpec.ofChange Rows.readsSpec).bare.plain.varTypes Tryz.prog).any (Tryz.prog.loopsFrom ·))=true:=by kernel_rfl
theorem aLO:(Rows.readsRow.wideKeys==(Tryz.f3.params.toList++(OpenSpec.ofChange Rows.readsSpec).bare.plain.varTypes Tryz.prog++Tryz.f3.resultTypes.toList).any (Tryz.prog.wideKeysFrom ·))=true:=by kernel_rfl
theorem aPR:((OpenSpec.ofChange Rows.readsSpec).bare.vars.all (Tryz.prog.varReadable ·))=true:=by kernel_rfl
theorem aPS:(Tryz.f3.resultTypes.all (fun t=>Tryz.prog.readableRec t&&decide (t < Tryz.prog.types.size)))=true:=by kernel_rfl
theorem aJK:(Rows.readsRow.ifacesOut==Tryz.f3.resultTypes.toList.any (Tryz.prog.ifacesRec ·))=true:=by kernel_rfl
theorem aLR:(Rows.readsRow.loopsOut==Tryz.f3.resultTypes.toList.any (Tryz.prog.loopsFrom ·))=true:=by kernel_rfl
theorem aJJ:(Rows.readsRow.plainKeys==Tryz.prog.plainKeys)=true:=facts.plainKeys
theorem aH9:(Rows.readsRow.shortTexts.isNone)=true:=by kernel_rfl
theorem aTW:(Rows.readsRow.lifted==Tryz.prog.liftsFinal)=true:=facts.lifted
theorem aYW:(Tryz.prog.make==some Rows.readsRow.make)=true:=facts.make
theorem aWB:(Rows.readsRow.kinds==(if Rows.readsRow.domain.isEmpty then[]else Tryz.f3.params.toList.map fun t=>match Tryz.prog.underlying t with|some (.int k)=>some k|_=>none))=true:=by kernel_rfl
theorem aTV:(Rows.readsRow.pinned==Rows.readsRow.pinnedBy)=true:=by kernel_rfl
theorem aTU:(Rows.readsRow.veiled==(Tryz.f3.params.toList++(OpenSpec.ofChange Rows.readsSpec).bare.plain.varTypes Tryz.prog++Tryz.f3.resultTypes.toList).any (Tryz.prog.veiledRec ·))=true:=by kernel_rfl
theorem aH7:(Rows.readsRow.veiledFits Tryz.prog Tryz.f3.params.toList (Tryz.f3.params.toList++(OpenSpec.ofChange Rows.readsSpec).bare.plain.varTypes Tryz.prog++Tryz.f3.resultTypes.toList))=true:=by kernel_rfl
end Go.Proofs.YtikffmloeifkpaaGreatDoor.reads
