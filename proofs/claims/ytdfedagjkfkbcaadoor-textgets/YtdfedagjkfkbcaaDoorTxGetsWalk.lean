/- The law on Get of texts returns true. -/
import Derived.Test.YtdfedagjkfkbcaaDoorTxPutsWalk
namespace Go.Proofs.YtdfedagjkfkbcaaDoor
open Go.RowKit

namespace TX
theorem get_x : (getT ⟨#[0, 1, 120]⟩ 0).1 = ⟨#[120]⟩ := by
  have e : VP.dat ⟨#[0, 1, 120]⟩ 0 = (⟨#[120]⟩, 3, 0) := by decide
  unfold getT
  rw [e]
  simp only [bad_x]
  decide
end TX

set_option maxHeartbeats 400000 in
theorem textGets_walk (s : ByteArray) (at_ : Int) (hs : s.size ≤ 140737488351232) (w : World) (hT : Tabs w) :
    Calls Tryd.prog 5 #[.string s, .int .i64 at_] w fun e w' => e = .returned (.bool true) ∧ Below w.heap.size w w' := by
  have h1 := Lib.hid TX.get_x
  go_enter Tryd.func5, Tryd.ntmps5
  go_wp2_with fail
  refine (tget_any s at_ hs _ hT).mono ?_
  rintro e w1 ⟨rfl, b1⟩
  go_wp2_with fail
  refine (reftget_any s at_ hs _).mono ?_
  rintro e w2 ⟨rfl, b2⟩
  have B2 := b1.trans (b2.mono b1.size)
  have t2 := hT.below B2
  go_wp2_with fail
  refine (tget_any ⟨#[0, 1, 120]⟩ 0 (by decide) _ t2).mono ?_
  rintro e w3 ⟨rfl, b3⟩
  rw [h1.out]
  have B3 := B2.trans (b3.mono B2.size)
  clear b1 b2 b3 B2 t2
  obtain ⟨hc0, hc1⟩ := TX.getT_code s at_
  generalize TX.getT s at_ = u at hc0 hc1
  generalize TX.getT ⟨#[0, 1, 120]⟩ 0 = u'
  obtain ⟨a, b, c⟩ := u
  obtain ⟨a', b', c'⟩ := u'
  go_wp2
  go_ret
  exact ⟨rfl, B3⟩

end Go.Proofs.YtdfedagjkfkbcaaDoor
