/- Cut: the program's function answers the longest beginning that is a text. -/
import Derived.Test.YtdfedagjkfkbcaaDoorTxFn
namespace Go.Proofs.YtdfedagjkfkbcaaDoor
open Go.RowKit

set_option maxHeartbeats 400000 in
theorem cut_any (s : ByteArray) (most : Int) (hs : s.size ≤ 140737488351232) (w : World) (hT : Tabs w) :
    Calls Tryd.prog 18 #[.string s, .int .i64 most] w fun e w' => e = .returned (.string (s.extract 0 (TX.cutM s most))) ∧ Below w.heap.size w w' := by
  have hM := TX.clamp_le most s.size
  have hl := TX.cutM_le s most
  have hz := TX.size_take s _ hM
  have C := begin_any (s.extract 0 (TX.clamp most s.size)) (by unfold maxLen; omega) w hT
  rw [show TX.fin (s.extract 0 (TX.clamp most s.size)) 0 = TX.cutM s most from rfl] at C
  have hsl2 := slice_upto s (TX.cutM s most) (by omega)
  have D := fun w' => clone_any (s.extract 0 (TX.cutM s most)) w' (by rw [TX.size_take s _ (by omega)]; omega)
  generalize TX.cutM s most = F at *
  unfold TX.clamp at C
  clear hz hM hl
  go_enter Tryd.func18, Tryd.ntmps18
  go_wp2_with fail
  refine C.mono ?_
  rintro e w1 ⟨rfl, b1⟩
  clear C
  go_wp2_with fail
  refine (D _).mono ?_
  rintro e w2 ⟨rfl, b2⟩
  go_wp2
  go_ret
  exact ⟨rfl, b1.trans (b2.mono b1.size)⟩

end Go.Proofs.YtdfedagjkfkbcaaDoor
