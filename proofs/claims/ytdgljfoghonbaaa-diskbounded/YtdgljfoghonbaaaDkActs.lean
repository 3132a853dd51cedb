/- Both disks: one call of the law's act, whatever it is. -/
import Derived.Test.YtdgljfoghonbaaaDkAct1
import Derived.Test.YtdgljfoghonbaaaDkAct2
import Derived.Test.YtdgljfoghonbaaaDkAct3
import Derived.Test.YtdgljfoghonbaaaDkAct4
import Derived.Test.YtdgljfoghonbaaaDkAct5
import Derived.Test.YtdgljfoghonbaaaDkAct6
import Derived.Test.YtdgljfoghonbaaaDkAct7
import Derived.Test.YtdgljfoghonbaaaDkAct8
namespace Go.Proofs.Ytdgljfoghonbaaa
open Go.RowKit DK

theorem act_any (B d r : Nat) (D : Dv) (R : Rv) (x : Tx) (w : World) (h : Both B d r D R w) (hx : TxB B w x) :
    Calls Try.prog 11 #[.pointer (some ⟨d, 0, none⟩), .pointer (some ⟨r, 0, none⟩), .agg x.cells] w (ActP B d r D R x w) := by
  have h1 := Int.tmod_lt_of_pos x.d (b := 9) (by decide)
  have h2 := Int.lt_tmod_of_pos x.d (b := 9) (by decide)
  by_cases a1 : x.d.tmod 9 = 1 ∨ x.d.tmod 9 = (-1)
  · exact act1_any B d r D R x w h hx a1
  by_cases a2 : x.d.tmod 9 = 2 ∨ x.d.tmod 9 = (-2)
  · exact act2_any B d r D R x w h hx a2
  by_cases a3 : x.d.tmod 9 = 3 ∨ x.d.tmod 9 = (-3)
  · exact act3_any B d r D R x w h hx a3
  by_cases a4 : x.d.tmod 9 = 4 ∨ x.d.tmod 9 = (-4)
  · exact act4_any B d r D R x w h hx a4
  by_cases a5 : x.d.tmod 9 = 5 ∨ x.d.tmod 9 = (-5)
  · exact act5_any B d r D R x w h hx a5
  by_cases a6 : x.d.tmod 9 = 6 ∨ x.d.tmod 9 = (-6)
  · exact act6_any B d r D R x w h hx a6
  by_cases a7 : x.d.tmod 9 = 7 ∨ x.d.tmod 9 = (-7)
  · exact act7_any B d r D R x w h hx a7
  exact act8_any B d r D R x w h hx (by omega)
/-- Both disks, new. -/
theorem both_new {w w1 w2 : World} {lim : Int} (hd : Dk w.heap.size (newD lim) w1) (b1 : Below w.heap.size w w1) (hr : Rk w1.heap.size (newR lim) w2) (b2 : Below w1.heap.size w1 w2) : Both w.heap.size w.heap.size w1.heap.size (newD lim) (newR lim) w2 :=
  ⟨Nat.le_refl _, b1.size, by have := hd.lt; omega, hd.below b2, hr, newD_ok lim, RFine.new lim⟩
end Go.Proofs.Ytdgljfoghonbaaa
