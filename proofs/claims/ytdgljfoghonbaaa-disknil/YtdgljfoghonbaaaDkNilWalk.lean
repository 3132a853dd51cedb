/- The law of a nil disk. -/
import Derived.Test.YtdgljfoghonbaaaDkWakes
import Derived.Test.YtdgljfoghonbaaaDkOpen
namespace Go.Proofs.Ytdgljfoghonbaaa
open Go.RowKit DK

theorem diskNil_walk (w : World) (X : Tx) : Calls Try.prog 6 #[.agg X.cells] w fun e w' => e = .returned (.bool true) ∧ Below w.heap.size w w' := diskNil_walk0 w X.d X.f X.n X.s X.A X.k.length X.cap
end Go.Proofs.Ytdgljfoghonbaaa
