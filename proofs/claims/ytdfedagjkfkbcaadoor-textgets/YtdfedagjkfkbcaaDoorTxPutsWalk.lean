/- The law on Put of texts returns true. -/
import Derived.Test.YtdfedagjkfkbcaaDoorTxPut
namespace Go.Proofs.YtdfedagjkfkbcaaDoor
open Go.RowKit

namespace TX
theorem fin_x : fin ⟨#[120]⟩ 0 = 1 := by
  rw [fin_yes (show chr ⟨#[120]⟩ 0 ≠ 0 by decide), show 0 + chr ⟨#[120]⟩ 0 = 1 by decide, fin_no (by decide)]
theorem bad_x : bad ⟨#[120]⟩ = false := bad_no (by rw [fin_x]; decide)
theorem put_x : putS ⟨#[120]⟩ = ⟨#[0, 1, 120]⟩ := by
  unfold putS
  rw [bad_x, if_neg (by decide)]
  decide
end TX

set_option maxHeartbeats 400000 in
theorem textPuts_walk (s : ByteArray) (hs : s.size ≤ 140737488351232) (w : World) (hT : Tabs w) :
    Calls Tryd.prog 4 #[.string s] w fun e w' => e = .returned (.bool true) ∧ Below w.heap.size w w' := by
  have h1 := Lib.hid TX.put_x
  go_enter Tryd.func4, Tryd.ntmps4
  go_wp2_with fail
  refine (tput_any s hs _ hT).mono ?_
  rintro e w1 ⟨rfl, b1⟩
  go_wp2_with fail
  refine (reftput_any s hs _).mono ?_
  rintro e w2 ⟨rfl, b2⟩
  have B2 := b1.trans (b2.mono b1.size)
  have t2 := hT.below B2
  go_wp2_with fail
  refine (tput_any ⟨#[120]⟩ (by decide) _ t2).mono ?_
  rintro e w3 ⟨rfl, b3⟩
  rw [h1.out]
  have B3 := B2.trans (b3.mono B2.size)
  clear b1 b2 b3 B2 t2
  obtain ⟨hc0, hc1⟩ := TX.putC_le s
  generalize TX.putC s = c at *
  generalize TX.putC ⟨#[120]⟩ = c'
  generalize TX.putS s = p
  go_wp2
  go_ret
  exact ⟨rfl, B3⟩

end Go.Proofs.YtdfedagjkfkbcaaDoor
