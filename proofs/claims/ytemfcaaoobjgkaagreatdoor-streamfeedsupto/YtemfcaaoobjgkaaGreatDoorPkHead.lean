/- What stands ahead of a list; endings; publish. -/
import Derived.Test.YtemfcaaoobjgkaaGreatDoorPkRep
namespace Go.Proofs.YtemfcaaoobjgkaaGreatDoor
open Go.RowKit

end Go.Proofs.YtemfcaaoobjgkaaGreatDoor
