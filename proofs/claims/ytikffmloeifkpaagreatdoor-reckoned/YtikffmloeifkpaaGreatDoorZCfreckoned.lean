/- Closed facts of the row, a theorem each. -/
import Derived.Test.YtikffmloeifkpaaGreatDoorM26
namespace Go.Proofs.YtikffmloeifkpaaGreatDoor.reckoned
open Go.ChangeShapes Go.WideShapes Go.ChangeAt Go.RowKit

theorem c_wf : (Rows.reckonedRow.wf (OpenSpec.ofChange (OpenSpec.ofChange Rows.reckonedSpec).bare)) = true := by kernel_rfl
theorem c_readable : (Tryz.f6.params.all (Tryz.prog.readableRec ·)) = true := by kernel_rfl
theorem c_tie : (namedTie Tryz.prog Rows.reckonedRow.named (OpenSpec.ofChange Rows.reckonedSpec).bare.vars) = true := by kernel_rfl
theorem c_stops : (Rows.reckonedRow.stops == []) = true := by kernel_rfl
theorem c_knobs : (Rows.reckonedRow.knobs == []) = true := by kernel_rfl
theorem c_inPlace : (Rows.reckonedRow.inPlace == Tryz.prog.inPlace 6) = true := by kernel_rfl
theorem c_unfollowed : (Rows.reckonedRow.unfollowed == Tryz.prog.unfollowed 6) = true := by kernel_rfl
theorem c_recurses : (Rows.reckonedRow.recurses == Tryz.prog.recurses 6) = true := by kernel_rfl
theorem c_varsNamed : (Rows.reckonedRow.named == Tryz.prog.varsNamed 6) = true := by kernel_rfl
theorem c_maps : (Rows.reckonedRow.maps == (Tryz.f6.params.toList ++ (OpenSpec.ofChange Rows.reckonedSpec).bare.plain.varTypes Tryz.prog).any (Tryz.prog.mapsRec ·)) = true := by kernel_rfl
theorem c_ifaces : (Rows.reckonedRow.ifaces == (Tryz.f6.params.toList ++ (OpenSpec.ofChange Rows.reckonedSpec).bare.plain.varTypes Tryz.prog).any (Tryz.prog.ifacesRec ·)) = true := by kernel_rfl
theorem c_mapsOut : (Rows.reckonedRow.mapsOut == Tryz.prog.mapsAmong Tryz.f6.resultTypes.toList) = true := by kernel_rfl
theorem c_loops : (Rows.reckonedRow.loops == (Tryz.f6.params.toList ++ (OpenSpec.ofChange Rows.reckonedSpec).bare.plain.varTypes Tryz.prog).any (Tryz.prog.loopsFrom ·)) = true := by kernel_rfl
theorem c_wideKeys : (Rows.reckonedRow.wideKeys == (Tryz.f6.params.toList ++ (OpenSpec.ofChange Rows.reckonedSpec).bare.plain.varTypes Tryz.prog ++ Tryz.f6.resultTypes.toList).any (Tryz.prog.wideKeysFrom ·)) = true := by kernel_rfl
theorem c_varRead : ((OpenSpec.ofChange Rows.reckonedSpec).bare.vars.all (Tryz.prog.varReadable ·)) = true := by kernel_rfl
theorem c_results : (Tryz.f6.resultTypes.all (fun t => Tryz.prog.readableRec t && decide (t < Tryz.prog.types.size))) = true := by kernel_rfl
theorem c_ifacesOut : (Rows.reckonedRow.ifacesOut == Tryz.f6.resultTypes.toList.any (Tryz.prog.ifacesRec ·)) = true := by kernel_rfl
theorem c_loopsOut : (Rows.reckonedRow.loopsOut == Tryz.f6.resultTypes.toList.any (Tryz.prog.loopsFrom ·)) = true := by kernel_rfl
theorem c_plainKeys : (Rows.reckonedRow.plainKeys == Tryz.prog.plainKeys) = true := facts.plainKeys
theorem c_shortTexts : (Rows.reckonedRow.shortTexts.isNone) = true := by kernel_rfl
theorem c_lifted : (Rows.reckonedRow.lifted == Tryz.prog.liftsFinal) = true := facts.lifted
theorem c_make : (Tryz.prog.make == some Rows.reckonedRow.make) = true := facts.make
theorem c_kinds : (Rows.reckonedRow.kinds == (if Rows.reckonedRow.domain.isEmpty then [] else Tryz.f6.params.toList.map fun t => match Tryz.prog.underlying t with | some (.int k) => some k | _ => none)) = true := by kernel_rfl
theorem c_pinned : (Rows.reckonedRow.pinned == Rows.reckonedRow.pinnedBy) = true := by kernel_rfl
theorem c_veiled : (Rows.reckonedRow.veiled == (Tryz.f6.params.toList ++ (OpenSpec.ofChange Rows.reckonedSpec).bare.plain.varTypes Tryz.prog ++ Tryz.f6.resultTypes.toList).any (Tryz.prog.veiledRec ·)) = true := by kernel_rfl
theorem c_veiledFits : (Rows.reckonedRow.veiledFits Tryz.prog Tryz.f6.params.toList (Tryz.f6.params.toList ++ (OpenSpec.ofChange Rows.reckonedSpec).bare.plain.varTypes Tryz.prog ++ Tryz.f6.resultTypes.toList)) = true := by kernel_rfl
end Go.Proofs.YtikffmloeifkpaaGreatDoor.reckoned
