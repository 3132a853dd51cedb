/- FaultFinds: the walk, with what the law's helper answers. -/
import Derived.Test.YteacjahncngoiaaDoorFaFindsWalk
import Derived.Test.YteacjahncngoiaaDoorFaMadeB
import Derived.Test.YteacjahncngoiaaDoorFaOpen
namespace Go.Proofs.YteacjahncngoiaaDoor
open Go.RowKit FA
theorem faultFinds_walk (w : World) (A : Option Addr) (cap : Nat) (l : List St) (hl : l.length ≤ maxLen) (hs : Steps w A l) (hc : l.length ≤ cap) (c : Nat) (hc2 : c < 256) (hT : Tabs w) (hG : 4 ≤ w.heap.size) :
    Calls Tryd.prog 4 #[.slice A l.length cap, .int .u8 c] w fun e w' => e = .returned (.bool true) ∧ Below w.heap.size w w' :=
  faultFinds_of w _ c hc2 (made_any w A cap l hl hs hT hc) hT hG
end Go.Proofs.YteacjahncngoiaaDoor
