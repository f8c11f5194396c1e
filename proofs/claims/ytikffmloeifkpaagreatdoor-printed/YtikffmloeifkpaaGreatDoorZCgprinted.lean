/- Contracts. -/
import Derived.Test.YtikffmloeifkpaaGreatDoorZCfprinted
namespace Go.Proofs.YtikffmloeifkpaaGreatDoor.printed
open Go.ChangeShapes Go.WideShapes Go.ChangeAt Go.RowKit
set_option maxRecDepth 100000 in
theorem aT9:joinedFacts Tryz.prog 10 Tryz.f10 (OpenSpec.ofChange Rows.printedSpec).bare Rows.printedRow=true:=by
 unfold joinedFacts;simp only[Bool.and_eq_true];exact⟨⟨⟨⟨⟨⟨⟨⟨⟨⟨⟨⟨⟨⟨⟨⟨⟨⟨⟨⟨⟨⟨⟨⟨⟨⟨⟨⟨⟨⟨⟨aUG,facts.laidOut⟩,facts.mapsRowed⟩,aGS⟩,aU7⟩,aR9⟩,facts.pstops⟩,aRB⟩,facts.pknobs⟩,aKQ⟩,aCM⟩,aGR⟩,aF2⟩,aTF⟩,aOS⟩,aKP⟩,aRA⟩,aGQ⟩,aKN⟩,aKO⟩,aF4⟩,aGT⟩,aF3⟩,aCN⟩,facts.stopsHeard⟩,facts.mayEnter⟩,aOR⟩,aTG⟩,aRC⟩,aOQ⟩,aOP⟩,aCL⟩
end Go.Proofs.YtikffmloeifkpaaGreatDoor.printed
