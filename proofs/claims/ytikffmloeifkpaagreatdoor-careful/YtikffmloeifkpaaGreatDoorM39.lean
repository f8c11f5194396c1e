/- Contracts. -/
import Derived.Test.YtikffmloeifkpaaGreatDoorM24
import Derived.Test.YtikffmloeifkpaaGreatDoorM31
namespace Go.Proofs.YtikffmloeifkpaaGreatDoor
open Go.RowKit Go.Lib Go.Deep Go.ChangeMaps Go.MapKept
end Go.Proofs.YtikffmloeifkpaaGreatDoor
