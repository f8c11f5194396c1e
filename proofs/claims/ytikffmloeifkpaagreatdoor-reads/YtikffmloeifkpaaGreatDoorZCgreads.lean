/- Contracts. -/
import Derived.Test.YtikffmloeifkpaaGreatDoorZCfreads
namespace Go.Proofs.YtikffmloeifkpaaGreatDoor.reads
open Go.ChangeShapes Go.WideShapes Go.ChangeAt Go.RowKit
set_option maxRecDepth 100000 in
theorem aT9:joinedFacts Tryz.prog 3 Tryz.f3 (OpenSpec.ofChange Rows.readsSpec).bare Rows.readsRow=true:=by
 unfold joinedFacts;simp only[Bool.and_eq_true];exact⟨⟨⟨⟨⟨⟨⟨⟨⟨⟨⟨⟨⟨⟨⟨⟨⟨⟨⟨⟨⟨⟨⟨⟨⟨⟨⟨⟨⟨⟨⟨aUG,facts.laidOut⟩,facts.mapsRowed⟩,aGS⟩,aU7⟩,aR9⟩,facts.pstops⟩,aRB⟩,facts.pknobs⟩,aKQ⟩,aCM⟩,aGR⟩,aF2⟩,aTF⟩,aOS⟩,aKP⟩,aRA⟩,aGQ⟩,aKN⟩,aKO⟩,aF4⟩,aGT⟩,aF3⟩,aCN⟩,facts.stopsHeard⟩,facts.mayEnter⟩,aOR⟩,aTG⟩,aRC⟩,aOQ⟩,aOP⟩,aCL⟩
end Go.Proofs.YtikffmloeifkpaaGreatDoor.reads
