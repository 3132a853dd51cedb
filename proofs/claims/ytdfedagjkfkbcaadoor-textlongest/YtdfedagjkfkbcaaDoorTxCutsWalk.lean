/- The law on Cut returns true. -/
import Derived.Test.YtdfedagjkfkbcaaDoorTxCut
namespace Go.Proofs.YtdfedagjkfkbcaaDoor
open Go.RowKit

namespace TX
theorem fin_a : fin ⟨#[97]⟩ 0 = 1 := by
  rw [fin_yes (show chr ⟨#[97]⟩ 0 ≠ 0 by decide), show 0 + chr ⟨#[97]⟩ 0 = 1 by decide, fin_no (by decide)]
theorem cut_ab : (⟨#[97, 98]⟩ : ByteArray).extract 0 (cutM ⟨#[97, 98]⟩ 1) = ⟨#[97]⟩ := by
  have e : cutM ⟨#[97, 98]⟩ 1 = fin ⟨#[97]⟩ 0 := by unfold cutM; rw [show (⟨#[97, 98]⟩ : ByteArray).extract 0 (clamp 1 (⟨#[97, 98]⟩ : ByteArray).size) = ⟨#[97]⟩ by decide]
  rw [e, fin_a]
  decide
end TX

set_option maxHeartbeats 400000 in
theorem textCuts_walk (s : ByteArray) (most : Int) (hs : s.size ≤ 140737488351232) (w : World) (hT : Tabs w) :
    Calls Tryd.prog 6 #[.string s, .int .i64 most] w fun e w' => e = .returned (.bool true) ∧ Below w.heap.size w w' := by
  have h1 := Lib.hid TX.cut_ab
  go_enter Tryd.func6, Tryd.ntmps6
  go_wp2_with fail
  refine (cut_any ⟨#[97, 98]⟩ 1 (by decide) _ hT).mono ?_
  rintro e w1 ⟨rfl, b1⟩
  rw [h1.out]
  have t1 := hT.below b1
  go_wp2_with fail
  refine (cut_any s most hs _ t1).mono ?_
  rintro e w2 ⟨rfl, b2⟩
  go_wp2_with fail
  refine (refcut_any s most hs _).mono ?_
  rintro e w' ⟨rfl, rfl⟩
  generalize s.extract 0 (TX.cutM s most) = c
  go_wp2
  go_ret
  exact ⟨rfl, b1.trans (b2.mono b1.size)⟩

end Go.Proofs.YtdfedagjkfkbcaaDoor
