/- A filter with its options, put; and a Connect's flags. -/
import Derived.Test.YtemfcaaoobjgkaaGreatDoorPkHead
import Derived.Laws.Closers25b
import Derived.Deep.RegionHeld3
import Derived.Deep.DrawnRows
import Derived.IntWalk
import Derived.BigQuiet
namespace Go.Proofs.YtemfcaaoobjgkaaGreatDoor
open Go.RowKit
attribute [local go_sem ↓] Go.wp_at_zero Go.wp_at_succ

theorem Kp.of_drew {b : Nat} {w w' : World} (h : Kp b w.drew w') : Kp b w w' := ⟨below_of_drew h.1, h.2⟩
end Go.Proofs.YtemfcaaoobjgkaaGreatDoor
