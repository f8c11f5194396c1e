/- All closed facts of the row. -/
import Derived.Test.YtikffmloeifkpaaGreatDoorZCfreckoned
namespace Go.Proofs.YtikffmloeifkpaaGreatDoor.reckoned
open Go.ChangeShapes Go.WideShapes Go.ChangeAt Go.RowKit

set_option maxRecDepth 100000 in
theorem closed : joinedFacts Tryz.prog 6 Tryz.f6 (OpenSpec.ofChange Rows.reckonedSpec).bare Rows.reckonedRow = true := by
  unfold joinedFacts
  simp only [Bool.and_eq_true]
  exact ⟨⟨⟨⟨⟨⟨⟨⟨⟨⟨⟨⟨⟨⟨⟨⟨⟨⟨⟨⟨⟨⟨⟨⟨⟨⟨⟨⟨⟨⟨⟨c_wf, facts.laidOut⟩, facts.mapsRowed⟩, c_readable⟩, c_tie⟩, c_stops⟩, facts.pstops⟩, c_knobs⟩, facts.pknobs⟩, c_inPlace⟩, c_unfollowed⟩, c_recurses⟩, c_varsNamed⟩, c_maps⟩, c_ifaces⟩, c_mapsOut⟩, c_loops⟩, c_wideKeys⟩, c_varRead⟩, c_results⟩, c_ifacesOut⟩, c_loopsOut⟩, c_plainKeys⟩, c_shortTexts⟩, facts.stopsHeard⟩, facts.mayEnter⟩, c_lifted⟩, c_make⟩, c_kinds⟩, c_pinned⟩, c_veiled⟩, c_veiledFits⟩
end Go.Proofs.YtikffmloeifkpaaGreatDoor.reckoned
