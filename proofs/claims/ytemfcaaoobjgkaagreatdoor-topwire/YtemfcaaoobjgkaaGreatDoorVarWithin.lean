/- Whether a place lies within a string. -/
import Derived.Test.YtemfcaaoobjgkaaGreatDoorVarBytes
namespace Go.Proofs.YtemfcaaoobjgkaaGreatDoor
open Go.RowKit

theorem within_yes (s : ByteArray) (k : Nat) (_hs : s.size ≤ maxLen) (hk : k ≤ s.size) (w : World) :
    Calls Tryz.prog 63 #[.string s, .int .i64 k] w fun e w' => e = .returned (.bool true) ∧ w = w' := by
  go_enter Tryz.func63, Tryz.ntmps63
  go_wp2
  go_ret
  exact ⟨rfl, rfl⟩

theorem within_no (s : ByteArray) (at_ : Int) (_hs : s.size ≤ maxLen) (hk : at_ < 0 ∨ (s.size : Int) < at_) (w : World) :
    Calls Tryz.prog 63 #[.string s, .int .i64 at_] w fun e w' => e = .returned (.bool false) ∧ w = w' := by
  by_cases h : at_ < 0
  · go_enter Tryz.func63, Tryz.ntmps63
    go_wp2
    go_ret
    exact ⟨rfl, rfl⟩
  · have h0 : 0 ≤ at_ := by omega
    have h1 : decide (at_ ≤ (s.size : Int)) = false := by simp; omega
    clear hk
    go_enter Tryz.func63, Tryz.ntmps63
    go_wp2
    go_ret
    exact ⟨rfl, rfl⟩

end Go.Proofs.YtemfcaaoobjgkaaGreatDoor
