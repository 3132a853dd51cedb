/- FaultTexts: the walk, with what the law's helper answers. -/
import Derived.Test.YteacjahncngoiaaDoorFaTextsWalk
import Derived.Test.YteacjahncngoiaaDoorFaMadeB
import Derived.Test.YteacjahncngoiaaDoorFaOpen
namespace Go.Proofs.YteacjahncngoiaaDoor
open Go.RowKit FA
theorem faultTexts_walk (w : World) (A : Option Addr) (cap : Nat) (l : List St) (hl : l.length ≤ maxLen) (hs : Steps w A l) (hc : l.length ≤ cap) (hT : Tabs w) (hG : 4 ≤ w.heap.size) :
    Calls Tryd.prog 5 #[.slice A l.length cap] w fun e w' => e = .returned (.bool true) ∧ Below w.heap.size w w' :=
  faultTexts_of w _ (made_any w A cap l hl hs hT hc) hT hG
end Go.Proofs.YteacjahncngoiaaDoor
