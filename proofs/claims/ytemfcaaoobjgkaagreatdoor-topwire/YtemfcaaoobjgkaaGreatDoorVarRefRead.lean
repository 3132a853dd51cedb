/- The document's function that reads fixed numbers answers the plain number, place and code. -/
import Derived.Test.YtemfcaaoobjgkaaGreatDoorVarRead
namespace Go.Proofs.YtemfcaaoobjgkaaGreatDoor
open Go.RowKit

set_option maxRecDepth 100000 in
set_option maxHeartbeats 1000000 in
theorem refread_1 (s : ByteArray) (k : Nat) (hs : s.size ≤ maxLen) (hk : k ≤ s.size) (w : World) :
    Calls Tryz.prog 100 #[.string s, .int .i64 k, .int .i64 1] w fun e w' => e = .returned (.tuple #[.int .i64 (VP.rd s k 1).1, .int .i64 (VP.rd s k 1).2.1, .int .i64 (VP.rd s k 1).2.2]) ∧ w = w' := by
  unfold maxLen at hs
  have hd : decide (s.size < k) = false := by simp; omega
  have hd2 : decide ((k : Int) < 0) = false := by simp
  by_cases h : k < s.size
  · have hg := Lib.hid (VP.rd_1 s k h)
    have hb0 := byte_lt s (k) (by omega)
    go_enter Tryz.func100, Tryz.ntmps100
    go_wp2
    refine wp_loop_rounds 2 ?_
    iterate 2 (rw [rounds_succ]; go_wp2)
    go_ret3
    exact ⟨ret_three hg.out, rfl⟩
  · have hg := Lib.hid (VP.rd_1few s k hk h)
    go_enter Tryz.func100, Tryz.ntmps100
    go_wp2
    go_ret3
    exact ⟨ret_three hg.out, rfl⟩

set_option maxRecDepth 100000 in
set_option maxHeartbeats 1000000 in
theorem refread_2 (s : ByteArray) (k : Nat) (hs : s.size ≤ maxLen) (hk : k ≤ s.size) (w : World) :
    Calls Tryz.prog 100 #[.string s, .int .i64 k, .int .i64 2] w fun e w' => e = .returned (.tuple #[.int .i64 (VP.rd s k 2).1, .int .i64 (VP.rd s k 2).2.1, .int .i64 (VP.rd s k 2).2.2]) ∧ w = w' := by
  unfold maxLen at hs
  have hd : decide (s.size < k) = false := by simp; omega
  have hd2 : decide ((k : Int) < 0) = false := by simp
  by_cases h : k + 1 < s.size
  · have hg := Lib.hid (VP.rd_2 s k h)
    have hb0 := byte_lt s (k) (by omega)
    have hb1 := byte_lt s (k + 1) (by omega)
    go_enter Tryz.func100, Tryz.ntmps100
    go_wp2
    refine wp_loop_rounds 3 ?_
    iterate 3 (rw [rounds_succ]; go_wp2)
    go_ret3
    exact ⟨ret_three hg.out, rfl⟩
  · have hg := Lib.hid (VP.rd_2few s k hk h)
    go_enter Tryz.func100, Tryz.ntmps100
    go_wp2
    go_ret3
    exact ⟨ret_three hg.out, rfl⟩

set_option maxRecDepth 100000 in
set_option maxHeartbeats 1000000 in
theorem refread_4 (s : ByteArray) (k : Nat) (hs : s.size ≤ maxLen) (hk : k ≤ s.size) (w : World) :
    Calls Tryz.prog 100 #[.string s, .int .i64 k, .int .i64 4] w fun e w' => e = .returned (.tuple #[.int .i64 (VP.rd s k 4).1, .int .i64 (VP.rd s k 4).2.1, .int .i64 (VP.rd s k 4).2.2]) ∧ w = w' := by
  unfold maxLen at hs
  have hd : decide (s.size < k) = false := by simp; omega
  have hd2 : decide ((k : Int) < 0) = false := by simp
  by_cases h : k + 3 < s.size
  · have hg := Lib.hid (VP.rd_4 s k h)
    have hb0 := byte_lt s (k) (by omega)
    have hb1 := byte_lt s (k + 1) (by omega)
    have hb2 := byte_lt s (k + 2) (by omega)
    have hb3 := byte_lt s (k + 3) (by omega)
    go_enter Tryz.func100, Tryz.ntmps100
    go_wp2
    refine wp_loop_rounds 5 ?_
    iterate 5 (rw [rounds_succ]; go_wp2)
    go_ret3
    exact ⟨ret_three hg.out, rfl⟩
  · have hg := Lib.hid (VP.rd_4few s k hk h)
    go_enter Tryz.func100, Tryz.ntmps100
    go_wp2
    go_ret3
    exact ⟨ret_three hg.out, rfl⟩

set_option maxHeartbeats 1000000 in
theorem refread_any (s : ByteArray) (at_ wd : Int) (hs : s.size ≤ maxLen) (w : World) :
    Calls Tryz.prog 100 #[.string s, .int .i64 at_, .int .i64 wd] w fun e w' => e = .returned (.tuple #[.int .i64 (VP.rd s at_ wd).1, .int .i64 (VP.rd s at_ wd).2.1, .int .i64 (VP.rd s at_ wd).2.2]) ∧ w = w' := by
  by_cases hw : VP.isW wd
  · by_cases h : at_ < 0
    · rw [VP.rd_out s at_ wd (.inl h)]
      rcases hw with rfl | rfl | rfl
      all_goals
        go_enter Tryz.func100, Tryz.ntmps100
        go_wp2
        go_ret3
        exact ⟨rfl, rfl⟩
    · by_cases h2 : (s.size : Int) < at_
      · rw [VP.rd_out s at_ wd (.inr h2)]
        unfold maxLen at hs
        rcases hw with rfl | rfl | rfl
        all_goals
          go_enter Tryz.func100, Tryz.ntmps100
          go_wp2
          go_ret3
          exact ⟨rfl, rfl⟩
      · obtain ⟨k, rfl⟩ := Int.eq_ofNat_of_zero_le (show 0 ≤ at_ by omega)
        rcases hw with rfl | rfl | rfl
        · exact refread_1 s k hs (by omega) w
        · exact refread_2 s k hs (by omega) w
        · exact refread_4 s k hs (by omega) w
  · rw [VP.rd_no s at_ wd hw]
    unfold VP.isW at hw
    have e1 : (wd == 1) = false := by rw [beq_eq_false_iff_ne]; omega
    have e2 : (wd == 2) = false := by rw [beq_eq_false_iff_ne]; omega
    have e4 : (wd == 4) = false := by rw [beq_eq_false_iff_ne]; omega
    clear hw
    go_enter Tryz.func100, Tryz.ntmps100
    go_wp2
    go_ret3
    exact ⟨rfl, rfl⟩

end Go.Proofs.YtemfcaaoobjgkaaGreatDoor
