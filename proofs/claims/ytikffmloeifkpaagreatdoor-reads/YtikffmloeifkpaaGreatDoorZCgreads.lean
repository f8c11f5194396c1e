/- Contracts. -/
import Derived.Test.YtikffmloeifkpaaGreatDoorZCfreads
namespace Go.Proofs.YtikffmloeifkpaaGreatDoor.reads
open Go.ChangeShapes Go.WideShapes Go.ChangeAt Go.RowKit
set_option maxRecDepth 100000 in
theorem aYU:joinedFacts Tryz.prog 3 Tryz.f3 (OpenSpec.ofChange Rows.readsSpec).bare Rows.readsRow=true:=by
 unfold joinedFacts;simp only[Bool.and_eq_true];exact⟨⟨⟨⟨⟨⟨⟨⟨⟨⟨⟨⟨⟨⟨⟨⟨⟨⟨⟨⟨⟨⟨⟨⟨⟨⟨⟨⟨⟨⟨⟨bAN,facts.laidOut⟩,facts.mapsRowed⟩,aLQ⟩,bA2⟩,aW8⟩,facts.pstops⟩,aWA⟩,facts.pknobs⟩,aPU⟩,aH8⟩,aLP⟩,aJI⟩,aYV⟩,aTX⟩,aPT⟩,aW9⟩,aLO⟩,aPR⟩,aPS⟩,aJK⟩,aLR⟩,aJJ⟩,aH9⟩,facts.stopsHeard⟩,facts.mayEnter⟩,aTW⟩,aYW⟩,aWB⟩,aTV⟩,aTU⟩,aH7⟩
end Go.Proofs.YtikffmloeifkpaaGreatDoor.reads
