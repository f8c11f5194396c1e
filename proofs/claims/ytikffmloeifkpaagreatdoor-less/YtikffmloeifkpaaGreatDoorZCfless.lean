/- Closed facts of the row, a theorem each. -/
import Derived.Test.YtikffmloeifkpaaGreatDoorM26
namespace Go.Proofs.YtikffmloeifkpaaGreatDoor.less
open Go.ChangeShapes Go.WideShapes Go.ChangeAt Go.RowKit

theorem c_wf : (Rows.lessRow.wf (OpenSpec.ofChange (OpenSpec.ofChange Rows.lessSpec).bare)) = true := by kernel_rfl
theorem c_readable : (Tryz.f5.params.all (Tryz.prog.readableRec ·)) = true := by kernel_rfl
theorem c_tie : (namedTie Tryz.prog Rows.lessRow.named (OpenSpec.ofChange Rows.lessSpec).bare.vars) = true := by kernel_rfl
theorem c_stops : (Rows.lessRow.stops == []) = true := by kernel_rfl
theorem c_knobs : (Rows.lessRow.knobs == []) = true := by kernel_rfl
theorem c_inPlace : (Rows.lessRow.inPlace == Tryz.prog.inPlace 5) = true := by kernel_rfl
theorem c_unfollowed : (Rows.lessRow.unfollowed == Tryz.prog.unfollowed 5) = true := by kernel_rfl
theorem c_recurses : (Rows.lessRow.recurses == Tryz.prog.recurses 5) = true := by kernel_rfl
theorem c_varsNamed : (Rows.lessRow.named == Tryz.prog.varsNamed 5) = true := by kernel_rfl
theorem c_maps : (Rows.lessRow.maps == (Tryz.f5.params.toList ++ (OpenSpec.ofChange Rows.lessSpec).bare.plain.varTypes Tryz.prog).any (Tryz.prog.mapsRec ·)) = true := by kernel_rfl
theorem c_ifaces : (Rows.lessRow.ifaces == (Tryz.f5.params.toList ++ (OpenSpec.ofChange Rows.lessSpec).bare.plain.varTypes Tryz.prog).any (Tryz.prog.ifacesRec ·)) = true := by kernel_rfl
theorem c_mapsOut : (Rows.lessRow.mapsOut == Tryz.prog.mapsAmong Tryz.f5.resultTypes.toList) = true := by kernel_rfl
theorem c_loops : (Rows.lessRow.loops == (Tryz.f5.params.toList ++ (OpenSpec.ofChange Rows.lessSpec).bare.plain.varTypes Tryz.prog).any (Tryz.prog.loopsFrom ·)) = true := by kernel_rfl
theorem c_wideKeys : (Rows.lessRow.wideKeys == (Tryz.f5.params.toList ++ (OpenSpec.ofChange Rows.lessSpec).bare.plain.varTypes Tryz.prog ++ Tryz.f5.resultTypes.toList).any (Tryz.prog.wideKeysFrom ·)) = true := by kernel_rfl
theorem c_varRead : ((OpenSpec.ofChange Rows.lessSpec).bare.vars.all (Tryz.prog.varReadable ·)) = true := by kernel_rfl
theorem c_results : (Tryz.f5.resultTypes.all (fun t => Tryz.prog.readableRec t && decide (t < Tryz.prog.types.size))) = true := by kernel_rfl
theorem c_ifacesOut : (Rows.lessRow.ifacesOut == Tryz.f5.resultTypes.toList.any (Tryz.prog.ifacesRec ·)) = true := by kernel_rfl
theorem c_loopsOut : (Rows.lessRow.loopsOut == Tryz.f5.resultTypes.toList.any (Tryz.prog.loopsFrom ·)) = true := by kernel_rfl
theorem c_plainKeys : (Rows.lessRow.plainKeys == Tryz.prog.plainKeys) = true := facts.plainKeys
theorem c_shortTexts : (Rows.lessRow.shortTexts.isNone) = true := by kernel_rfl
theorem c_lifted : (Rows.lessRow.lifted == Tryz.prog.liftsFinal) = true := facts.lifted
theorem c_make : (Tryz.prog.make == some Rows.lessRow.make) = true := facts.make
theorem c_kinds : (Rows.lessRow.kinds == (if Rows.lessRow.domain.isEmpty then [] else Tryz.f5.params.toList.map fun t => match Tryz.prog.underlying t with | some (.int k) => some k | _ => none)) = true := by kernel_rfl
theorem c_pinned : (Rows.lessRow.pinned == Rows.lessRow.pinnedBy) = true := by kernel_rfl
theorem c_veiled : (Rows.lessRow.veiled == (Tryz.f5.params.toList ++ (OpenSpec.ofChange Rows.lessSpec).bare.plain.varTypes Tryz.prog ++ Tryz.f5.resultTypes.toList).any (Tryz.prog.veiledRec ·)) = true := by kernel_rfl
theorem c_veiledFits : (Rows.lessRow.veiledFits Tryz.prog Tryz.f5.params.toList (Tryz.f5.params.toList ++ (OpenSpec.ofChange Rows.lessSpec).bare.plain.varTypes Tryz.prog ++ Tryz.f5.resultTypes.toList)) = true := by kernel_rfl
end Go.Proofs.YtikffmloeifkpaaGreatDoor.less
