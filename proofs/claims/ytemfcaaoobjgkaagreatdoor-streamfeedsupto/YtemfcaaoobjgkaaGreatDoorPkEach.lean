/- The writer's lists. -/
import Derived.Test.YtemfcaaoobjgkaaGreatDoorPkConn
namespace Go.Proofs.YtemfcaaoobjgkaaGreatDoor
open Go.RowKit

end Go.Proofs.YtemfcaaoobjgkaaGreatDoor
