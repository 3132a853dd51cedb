/- The function that reads fixed numbers answers the plain number, place and code. -/
import Derived.Test.YtlfgndhdifpngaaDoorVarWithin
import Derived.Test.YtlfgndhdifpngaaDoorVarPureFix
namespace Go.Proofs.YtlfgndhdifpngaaDoor
open Go.RowKit

theorem isw_yes (wd : Int) (h : VP.isW wd) (w : World) : Calls Tryd.prog 37 #[.int .i64 wd] w fun e w' => e = .returned (.bool true) ∧ w = w' := by
  rcases h with rfl | rfl | rfl
  all_goals
    go_enter Tryd.func37, Tryd.ntmps37
    go_wp2
    go_ret
    exact ⟨rfl, rfl⟩

theorem isw_no (wd : Int) (h : ¬ VP.isW wd) (w : World) : Calls Tryd.prog 37 #[.int .i64 wd] w fun e w' => e = .returned (.bool false) ∧ w = w' := by
  unfold VP.isW at h
  have e1 : (wd == 1) = false := by rw [beq_eq_false_iff_ne]; omega
  have e2 : (wd == 2) = false := by rw [beq_eq_false_iff_ne]; omega
  have e4 : (wd == 4) = false := by rw [beq_eq_false_iff_ne]; omega
  clear h
  go_enter Tryd.func37, Tryd.ntmps37
  go_wp2
  go_ret
  exact ⟨rfl, rfl⟩

theorem or256 (x y : Int) (h0 : 0 ≤ x) (h1 : x < 16777216) (g0 : 0 ≤ y) (g1 : y < 256) : bits .or .i64 (x * 256) y = x * 256 + y :=
  bits_join .i64 62 (by decide) wraps_i64' 8 (x * 256) y (by omega) (by simp) (by omega) g0 g1 (by omega)
theorem or0 (y : Int) (g0 : 0 ≤ y) (g1 : y < 256) : bits .or .i64 0 y = y := by
  have := or256 0 y (by omega) (by omega) g0 g1
  simpa using this

end Go.Proofs.YtlfgndhdifpngaaDoor
