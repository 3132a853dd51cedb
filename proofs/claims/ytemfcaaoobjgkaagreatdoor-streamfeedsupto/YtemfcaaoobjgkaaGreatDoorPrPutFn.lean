/- The bytes of a value: the program's and the document's. -/
import Derived.Test.YtemfcaaoobjgkaaGreatDoorPrPut
import Derived.Test.YtemfcaaoobjgkaaGreatDoorPrKindRef
import Derived.Test.YtemfcaaoobjgkaaGreatDoorPrApp
import Derived.Test.YtemfcaaoobjgkaaGreatDoorVarPut
import Derived.Lib.QuietBelow
import Derived.BigQuiet
namespace Go.Proofs.YtemfcaaoobjgkaaGreatDoor
open Go.RowKit Go.Sort

theorem width_any (k : Int) (w : World) : Calls Tryz.prog 141 #[.int .i64 k] w fun e w' => e = .returned (.int .i64 (PR.wd k)) ∧ w = w' := by
  by_cases h1 : k = 1
  · subst h1
    go_enter Tryz.func141, Tryz.ntmps141
    go_wp2
    go_ret
    exact ⟨rfl, rfl⟩
  · by_cases h2 : k = 2
    · subst h2
      go_enter Tryz.func141, Tryz.ntmps141
      go_wp2
      go_ret
      exact ⟨rfl, rfl⟩
    · by_cases h3 : k = 3
      · subst h3
        go_enter Tryz.func141, Tryz.ntmps141
        go_wp2
        go_ret
        exact ⟨rfl, rfl⟩
      · have E : Hid (PR.wd k = 0) := Lib.hid (by unfold PR.wd; rw [if_neg h1, if_neg h2, if_neg h3])
        have e1 : (k == 1) = false := by rw [beq_eq_false_iff_ne]; exact h1
        have e2 : (k == 2) = false := by rw [beq_eq_false_iff_ne]; exact h2
        have e3 : (k == 3) = false := by rw [beq_eq_false_iff_ne]; exact h3
        clear h1 h2 h3
        go_enter Tryz.func141, Tryz.ntmps141
        go_wp2
        go_ret
        exact ⟨by rw [E.out]; rfl, rfl⟩

/-- The document's width, of a kind of numbers. -/
theorem rwidth_any (k : Int) (hk : k = 1 ∨ k = 2 ∨ k = 3) (w : World) : Calls Tryz.prog 135 #[.int .i64 k] w fun e w' => e = .returned (.int .i64 (PR.wd k)) ∧ w = w' := by
  rcases hk with rfl | rfl | rfl
  all_goals
    go_enter Tryz.func135, Tryz.ntmps135
    go_wp2
    go_ret
    exact ⟨rfl, rfl⟩

theorem kd_parts (k : Int) (h : 0 ≤ k ∧ k ≤ 7) : k = 4 ∨ k = 5 ∨ k = 6 ∨ k = 7 ∨ (k = 0 ∨ k = 1 ∨ k = 2 ∨ k = 3) := by omega

end Go.Proofs.YtemfcaaoobjgkaaGreatDoor
