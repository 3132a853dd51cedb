/- The two functions that tell how many bytes a number takes, the program's and the document's, answer the same plain number. -/
import Derived.Test.YtemfcaaoobjgkaaGreatDoorProg
import Derived.Test.YtemfcaaoobjgkaaGreatDoorVarPure
import Derived.Test.YtemfcaaoobjgkaaGreatDoorVarBytes
namespace Go.Proofs.YtemfcaaoobjgkaaGreatDoor
open Go.RowKit

theorem size_any (n : Int) (w : World) :
    Calls Tryz.prog 61 #[.int .i64 n] w fun e w' => e = .returned (.int .i64 (VP.sz n)) ∧ w = w' := by
  rcases (show n < 0 ∨ (0 ≤ n ∧ n < 128) ∨ (128 ≤ n ∧ n < 16384) ∨ (16384 ≤ n ∧ n < 2097152) ∨ (2097152 ≤ n ∧ n ≤ 268435455) ∨ 268435455 < n from by omega) with h | ⟨h, h'⟩ | ⟨h, h'⟩ | ⟨h, h'⟩ | ⟨h, h'⟩ | h
  · rw [VP.sz_out (.inl h)]
    go_enter Tryz.func61, Tryz.ntmps61
    go_wp2
    go_ret
    exact ⟨rfl, rfl⟩
  · rw [VP.sz_1 h h']
    go_enter Tryz.func61, Tryz.ntmps61
    go_wp2
    go_ret
    exact ⟨rfl, rfl⟩
  · rw [VP.sz_2 h h']
    go_enter Tryz.func61, Tryz.ntmps61
    go_wp2
    go_ret
    exact ⟨rfl, rfl⟩
  · rw [VP.sz_3 h h']
    go_enter Tryz.func61, Tryz.ntmps61
    go_wp2
    go_ret
    exact ⟨rfl, rfl⟩
  · rw [VP.sz_4 h h']
    go_enter Tryz.func61, Tryz.ntmps61
    go_wp2
    go_ret
    exact ⟨rfl, rfl⟩
  · rw [VP.sz_out (.inr h)]
    go_enter Tryz.func61, Tryz.ntmps61
    go_wp2
    go_ret
    exact ⟨rfl, rfl⟩

theorem refsize_any (n : Int) (w : World) :
    Calls Tryz.prog 68 #[.int .i64 n] w fun e w' => e = .returned (.int .i64 (VP.sz n)) ∧ w = w' := by
  rcases (show n < 0 ∨ (0 ≤ n ∧ n ≤ 268435455) ∨ 268435455 < n from by omega) with h | ⟨h, h'⟩ | h
  · rw [VP.sz_out (.inl h)]
    go_enter Tryz.func68, Tryz.ntmps68
    go_wp2
    go_ret
    exact ⟨rfl, rfl⟩
  · go_enter Tryz.func68, Tryz.ntmps68
    go_wp2
    go_loop [0, 3] (fun a b => ∃ m k : Int, 0 ≤ m ∧ m ≤ 268435455 ∧ 1 ≤ k ∧ k - 1 + VP.sz m = VP.sz n ∧ a = .int .i64 m ∧ b = .int .i64 k) (fun a _ => (intOf a).toNat)
    case atStart => exact ⟨n, 1, h, h', by omega, by omega, rfl, rfl⟩
    case round =>
      obtain ⟨m, k, hm, hm', hk, hs, rfl, rfl⟩ := hrel
      have hn := VP.sz_in h h'
      have hz := VP.sz_in hm hm'
      have hk4 : k ≤ 4 := by omega
      have HS := Lib.hid hs
      clear hs
      by_cases hlt : 127 < m
      · have HD := Lib.hid (VP.sz_div hlt hm')
        go_wp2
        go_round
        case rel => exact ⟨m / 128, k + 1, by omega, by omega, by omega, by have := HS.out; have := HD.out; omega, rfl, rfl⟩
        case measure => simp [intOf]; omega
      · have HD := Lib.hid (VP.sz_1 hm (show m < 128 by omega))
        go_wp2
        go_ret
        exact ⟨ret_int (by have := HS.out; have := HD.out; omega), rfl⟩
  · rw [VP.sz_out (.inr h)]
    go_enter Tryz.func68, Tryz.ntmps68
    go_wp2
    go_ret
    exact ⟨rfl, rfl⟩

end Go.Proofs.YtemfcaaoobjgkaaGreatDoor
