/- Small facts on codes, capacities and drawn worlds. -/
import Derived.Test.YtemfcaaoobjgkaaGreatDoorPrPut
import Derived.OpenShut
namespace Go.Proofs.YtemfcaaoobjgkaaGreatDoor
open Go.RowKit Go.WideShapes Go.ChangeShapes

theorem drewN_below (B : Nat) (w : World) (n : Nat) : Below B w (w.drewN n) := ⟨rfl, rfl, rfl, Nat.le_refl _, fun _ _ => rfl⟩
end Go.Proofs.YtemfcaaoobjgkaaGreatDoor
