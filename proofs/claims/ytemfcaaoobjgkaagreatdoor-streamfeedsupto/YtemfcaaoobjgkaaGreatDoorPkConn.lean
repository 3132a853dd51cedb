/- The writer's connect. (Written by wip/tools/gen_conn.py.) -/
import Derived.Test.YtemfcaaoobjgkaaGreatDoorPkSub
namespace Go.Proofs.YtemfcaaoobjgkaaGreatDoor
open Go.RowKit

end Go.Proofs.YtemfcaaoobjgkaaGreatDoor
