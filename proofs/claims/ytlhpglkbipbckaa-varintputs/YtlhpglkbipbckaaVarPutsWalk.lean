/- The law on bytes returns true. -/
import Derived.Test.YtlhpglkbipbckaaVarPut
namespace Go.Proofs.Ytlhpglkbipbckaa
open Go.RowKit

theorem put321 : strOfNums (VP.putL 321) = ⟨#[193, 2]⟩ := by decide

set_option maxHeartbeats 400000 in
theorem varintPuts_walk (n : Int) (_hw : (Lit.int .i64 n).wf = true) (w : World) :
    Calls Try.prog 4 #[.int .i64 n] w fun e w' => e = .returned (.bool true) ∧ Below w.heap.size w w' := by
  have h321 := Lib.hid put321
  go_enter Try.func4, Try.ntmps4
  go_wp2_with fail
  refine (put_any n _).mono ?_
  rintro e w1 ⟨rfl, b1⟩
  go_wp2_with fail
  refine (refput_any n _).mono ?_
  rintro e w2 ⟨rfl, b2⟩
  go_wp2_with fail
  refine (put_any 321 _).mono ?_
  rintro e w3 ⟨rfl, b3⟩
  rw [h321.out]
  have B := (b1.trans (b2.mono b1.size)).trans (b3.mono (b1.trans (b2.mono b1.size)).size)
  clear b1 b2 b3
  obtain ⟨hc0, hc1⟩ := VP.putC_le n
  generalize strOfNums (VP.putL n) = s
  revert hc0 hc1
  generalize VP.putC n = c
  intro hc0 hc1
  go_wp2
  go_ret
  exact ⟨rfl, B⟩

end Go.Proofs.Ytlhpglkbipbckaa
