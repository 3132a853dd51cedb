/- The bytes of properties: the program's Put. -/
import Derived.Test.YtemfcaaoobjgkaaGreatDoorPrPutOne
import Derived.Deep.RegionHeld3
namespace Go.Proofs.YtemfcaaoobjgkaaGreatDoor
open Go.RowKit

end Go.Proofs.YtemfcaaoobjgkaaGreatDoor
