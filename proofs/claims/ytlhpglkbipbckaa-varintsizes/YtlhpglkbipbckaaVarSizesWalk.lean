/- The law on sizes returns true. -/
import Derived.Test.YtlhpglkbipbckaaVarSize
import Derived.Below
namespace Go.Proofs.Ytlhpglkbipbckaa
open Go.RowKit

theorem varintSizes_walk (n : Int) (_hw : (Lit.int .i64 n).wf = true) (w : World) :
    Calls Try.prog 3 #[.int .i64 n] w fun e w' => e = .returned (.bool true) ∧ Below w.heap.size w w' := by
  have h321 := Lib.hid (VP.sz_2 (n := 321) (by omega) (by omega))
  go_enter Try.func3, Try.ntmps3
  go_wp2_with fail
  refine (size_any 321 _).mono ?_
  rintro e w' ⟨rfl, rfl⟩
  rw [h321.out]
  go_wp2_with fail
  refine (size_any n _).mono ?_
  rintro e w' ⟨rfl, rfl⟩
  go_wp2_with fail
  refine (refsize_any n _).mono ?_
  rintro e w' ⟨rfl, rfl⟩
  go_wp2
  go_ret
  exact ⟨rfl, Below.refl _ _⟩

end Go.Proofs.Ytlhpglkbipbckaa
