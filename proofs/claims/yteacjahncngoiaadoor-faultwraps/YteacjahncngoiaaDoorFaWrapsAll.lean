/- FaultWraps: the walk, with what the law's helper answers. -/
import Derived.Test.YteacjahncngoiaaDoorFaWrapsWalk
import Derived.Test.YteacjahncngoiaaDoorFaMadeB
import Derived.Test.YteacjahncngoiaaDoorFaOpen
namespace Go.Proofs.YteacjahncngoiaaDoor
open Go.RowKit FA
theorem faultWraps_walk (w : World) (A : Option Addr) (cap : Nat) (l : List St) (hl : l.length ≤ maxLen) (hs : Steps w A l) (hc : l.length ≤ cap) (A2 : Option Addr) (cap2 : Nat) (l2 : List ByteArray) (hl2 : l2.length ≤ maxLen) (hs2 : Strs w A2 l2) (hc2 : l2.length ≤ cap2) (hT : Tabs w) (hG : 4 ≤ w.heap.size) :
    Calls Tryd.prog 6 #[.slice A l.length cap, .slice A2 l2.length cap2] w fun e w' => e = .returned (.bool true) ∧ Below w.heap.size w w' :=
  faultWraps_of w _ A2 cap2 l2 hl2 hs2 hc2 (made_any w A cap l hl hs hT hc) hT hG
end Go.Proofs.YteacjahncngoiaaDoor
