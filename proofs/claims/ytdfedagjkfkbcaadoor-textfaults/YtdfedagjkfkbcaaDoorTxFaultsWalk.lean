/- The law on faults of texts returns true. -/
import Derived.Test.YtdfedagjkfkbcaaDoorTxFn
namespace Go.Proofs.YtdfedagjkfkbcaaDoor
open Go.RowKit

namespace TX
theorem fin_ac3 : fin ⟨#[97, 195]⟩ 0 = 1 := by
  rw [fin_yes (show chr ⟨#[97, 195]⟩ 0 ≠ 0 by decide), show 0 + chr ⟨#[97, 195]⟩ 0 = 1 by decide, fin_no (by decide)]
theorem flt_ac3 : flt ⟨#[97, 195]⟩ = 1 := by rw [flt_yes (by rw [fin_ac3]; decide), fin_ac3]
theorem bad_ac3 : bad ⟨#[97, 195]⟩ = true := bad_yes (by rw [fin_ac3]; decide)
end TX

set_option maxHeartbeats 400000 in
theorem textFaults_walk (s : ByteArray) (hs : s.size ≤ 140737488351232) (w : World) (hT : Tabs w) :
    Calls Tryd.prog 3 #[.string s] w fun e w' => e = .returned (.bool true) ∧ Below w.heap.size w w' := by
  have h1 := Lib.hid TX.flt_ac3
  have h2 := Lib.hid TX.bad_ac3
  go_enter Tryd.func3, Tryd.ntmps3
  go_wp2_with fail
  refine (fault_any s hs _ hT).mono ?_
  rintro e w1 ⟨rfl, b1⟩
  go_wp2_with fail
  refine (reffault_any s hs _).mono ?_
  rintro e w' ⟨rfl, rfl⟩
  go_wp2_with fail
  have t1 := hT.below b1
  refine (fault_any ⟨#[97, 195]⟩ (by decide) _ t1).mono ?_
  rintro e w2 ⟨rfl, b2⟩
  rw [h1.out, h2.out]
  have t2 := t1.below b2
  have b12 := b1.trans (b2.mono b1.size)
  generalize TX.flt s = f
  generalize TX.bad s = b
  clear b1 b2 t1
  go_wp2_with fail
  refine (runes_any s hs _ t2).mono ?_
  rintro e w3 ⟨rfl, b3⟩
  go_wp2_with fail
  refine (refrunes_any s hs _).mono ?_
  rintro e w' ⟨rfl, rfl⟩
  generalize TX.cnt s 0 = n
  go_wp2
  go_ret
  exact ⟨rfl, b12.trans (b3.mono b12.size)⟩

end Go.Proofs.YtdfedagjkfkbcaaDoor
