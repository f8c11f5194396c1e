/- Contracts. -/
import Derived.Test.YtikffmloeifkpaaGreatDoorZCfcareful
namespace Go.Proofs.YtikffmloeifkpaaGreatDoor.careful
open Go.ChangeShapes Go.WideShapes Go.ChangeAt Go.RowKit
set_option maxRecDepth 100000 in
theorem aTA:joinedFacts Tryz.prog 8 Tryz.f8 (OpenSpec.ofChange Rows.carefulSpec).bare Rows.carefulRow=true:=by
 unfold joinedFacts;simp only[Bool.and_eq_true];exact⟨⟨⟨⟨⟨⟨⟨⟨⟨⟨⟨⟨⟨⟨⟨⟨⟨⟨⟨⟨⟨⟨⟨⟨⟨⟨⟨⟨⟨⟨⟨aUH,facts.laidOut⟩,facts.mapsRowed⟩,aGS⟩,aU8⟩,aRA⟩,facts.pstops⟩,aRC⟩,facts.pknobs⟩,aKR⟩,aCM⟩,aGR⟩,aF2⟩,aTG⟩,aOT⟩,aKQ⟩,aRB⟩,aGQ⟩,aKO⟩,aKP⟩,aF4⟩,aGT⟩,aF3⟩,aCN⟩,facts.stopsHeard⟩,facts.mayEnter⟩,aOS⟩,aTH⟩,aRD⟩,aOR⟩,aOQ⟩,aCL⟩
end Go.Proofs.YtikffmloeifkpaaGreatDoor.careful
