import Derived.Test.YtlaffgagmncgjabGreatDoorS1
import Derived.Test.YtlaffgagmncgjabGreatDoorM1
import Derived.Test.YtlaffgagmncgjabGreatDoorL2
namespace Go.Proofs.YtlaffgagmncgjabGreatDoor
open Tryz Go Go.Pat Go.Proofs
end Go.Proofs.YtlaffgagmncgjabGreatDoor
