/- The function that reads fixed numbers answers the plain number, place and code. -/
import Derived.Test.YtemfcaaoobjgkaaGreatDoorVarWithin
import Derived.Test.YtemfcaaoobjgkaaGreatDoorVarPureFix
namespace Go.Proofs.YtemfcaaoobjgkaaGreatDoor
open Go.RowKit

theorem isw_yes (wd : Int) (h : VP.isW wd) (w : World) : Calls Tryz.prog 60 #[.int .i64 wd] w fun e w' => e = .returned (.bool true) ∧ w = w' := by
  rcases h with rfl | rfl | rfl
  all_goals
    go_enter Tryz.func60, Tryz.ntmps60
    go_wp2
    go_ret
    exact ⟨rfl, rfl⟩

theorem isw_no (wd : Int) (h : ¬ VP.isW wd) (w : World) : Calls Tryz.prog 60 #[.int .i64 wd] w fun e w' => e = .returned (.bool false) ∧ w = w' := by
  unfold VP.isW at h
  have e1 : (wd == 1) = false := by rw [beq_eq_false_iff_ne]; omega
  have e2 : (wd == 2) = false := by rw [beq_eq_false_iff_ne]; omega
  have e4 : (wd == 4) = false := by rw [beq_eq_false_iff_ne]; omega
  clear h
  go_enter Tryz.func60, Tryz.ntmps60
  go_wp2
  go_ret
  exact ⟨rfl, rfl⟩

theorem or256 (x y : Int) (h0 : 0 ≤ x) (h1 : x < 16777216) (g0 : 0 ≤ y) (g1 : y < 256) : bits .or .i64 (x * 256) y = x * 256 + y :=
  bits_join .i64 62 (by decide) wraps_i64' 8 (x * 256) y (by omega) (by simp) (by omega) g0 g1 (by omega)
theorem or0 (y : Int) (g0 : 0 ≤ y) (g1 : y < 256) : bits .or .i64 0 y = y := by
  have := or256 0 y (by omega) (by omega) g0 g1
  simpa using this

set_option maxRecDepth 100000 in
set_option maxHeartbeats 1000000 in
theorem read_1 (s : ByteArray) (k : Nat) (hs : s.size ≤ maxLen) (hk : k ≤ s.size) (w : World) :
    Calls Tryz.prog 131 #[.string s, .int .i64 k, .int .i64 1] w fun e w' => e = .returned (.tuple #[.int .i64 (VP.rd s k 1).1, .int .i64 (VP.rd s k 1).2.1, .int .u8 (VP.rd s k 1).2.2]) ∧ w = w' := by
  have hs' := hs
  unfold maxLen at hs'
  by_cases h : k < s.size
  · have hg := Lib.hid (VP.rd_1 s k h)
    have hb0 := byte_lt s (k) (by omega)
    have hq0 := or0 ((s[k]'(by omega)).toNat : Int) (by omega) hb0
    go_enter Tryz.func131, Tryz.ntmps131
    go_wp2_with fail
    refine (isw_yes 1 (.inl rfl) _).mono ?_
    rintro e w' ⟨rfl, rfl⟩
    go_wp2_with fail
    refine (within_yes s k hs hk _).mono ?_
    rintro e w' ⟨rfl, rfl⟩
    go_wp2
    refine wp_loop_rounds 2 ?_
    iterate 2 (rw [rounds_succ]; go_wp2)
    go_ret3
    exact ⟨ret_three hg.out, rfl⟩
  · have hg := Lib.hid (VP.rd_1few s k hk h)
    go_enter Tryz.func131, Tryz.ntmps131
    go_wp2_with fail
    refine (isw_yes 1 (.inl rfl) _).mono ?_
    rintro e w' ⟨rfl, rfl⟩
    go_wp2_with fail
    refine (within_yes s k hs hk _).mono ?_
    rintro e w' ⟨rfl, rfl⟩
    go_wp2
    go_ret3
    exact ⟨ret_three hg.out, rfl⟩

set_option maxRecDepth 100000 in
set_option maxHeartbeats 1000000 in
theorem read_2 (s : ByteArray) (k : Nat) (hs : s.size ≤ maxLen) (hk : k ≤ s.size) (w : World) :
    Calls Tryz.prog 131 #[.string s, .int .i64 k, .int .i64 2] w fun e w' => e = .returned (.tuple #[.int .i64 (VP.rd s k 2).1, .int .i64 (VP.rd s k 2).2.1, .int .u8 (VP.rd s k 2).2.2]) ∧ w = w' := by
  have hs' := hs
  unfold maxLen at hs'
  by_cases h : k + 1 < s.size
  · have hg := Lib.hid (VP.rd_2 s k h)
    have hb0 := byte_lt s (k) (by omega)
    have hb1 := byte_lt s (k + 1) (by omega)
    have hq0 := or0 ((s[k]'(by omega)).toNat : Int) (by omega) hb0
    have hq1 := or256 (((s[k]'(by omega)).toNat : Int)) ((s[k + 1]'(by omega)).toNat : Int) (by omega) (by omega) (by omega) hb1
    go_enter Tryz.func131, Tryz.ntmps131
    go_wp2_with fail
    refine (isw_yes 2 (.inr (.inl rfl)) _).mono ?_
    rintro e w' ⟨rfl, rfl⟩
    go_wp2_with fail
    refine (within_yes s k hs hk _).mono ?_
    rintro e w' ⟨rfl, rfl⟩
    go_wp2
    refine wp_loop_rounds 3 ?_
    iterate 3 (rw [rounds_succ]; go_wp2)
    go_ret3
    exact ⟨ret_three hg.out, rfl⟩
  · have hg := Lib.hid (VP.rd_2few s k hk h)
    go_enter Tryz.func131, Tryz.ntmps131
    go_wp2_with fail
    refine (isw_yes 2 (.inr (.inl rfl)) _).mono ?_
    rintro e w' ⟨rfl, rfl⟩
    go_wp2_with fail
    refine (within_yes s k hs hk _).mono ?_
    rintro e w' ⟨rfl, rfl⟩
    go_wp2
    go_ret3
    exact ⟨ret_three hg.out, rfl⟩

set_option maxRecDepth 100000 in
set_option maxHeartbeats 1000000 in
theorem read_4 (s : ByteArray) (k : Nat) (hs : s.size ≤ maxLen) (hk : k ≤ s.size) (w : World) :
    Calls Tryz.prog 131 #[.string s, .int .i64 k, .int .i64 4] w fun e w' => e = .returned (.tuple #[.int .i64 (VP.rd s k 4).1, .int .i64 (VP.rd s k 4).2.1, .int .u8 (VP.rd s k 4).2.2]) ∧ w = w' := by
  have hs' := hs
  unfold maxLen at hs'
  by_cases h : k + 3 < s.size
  · have hg := Lib.hid (VP.rd_4 s k h)
    have hb0 := byte_lt s (k) (by omega)
    have hb1 := byte_lt s (k + 1) (by omega)
    have hb2 := byte_lt s (k + 2) (by omega)
    have hb3 := byte_lt s (k + 3) (by omega)
    have hq0 := or0 ((s[k]'(by omega)).toNat : Int) (by omega) hb0
    have hq1 := or256 (((s[k]'(by omega)).toNat : Int)) ((s[k + 1]'(by omega)).toNat : Int) (by omega) (by omega) (by omega) hb1
    have hq2 := or256 (((s[k]'(by omega)).toNat : Int) * 256 + ((s[k + 1]'(by omega)).toNat : Int)) ((s[k + 2]'(by omega)).toNat : Int) (by omega) (by omega) (by omega) hb2
    have hq3 := or256 ((((s[k]'(by omega)).toNat : Int) * 256 + ((s[k + 1]'(by omega)).toNat : Int)) * 256 + ((s[k + 2]'(by omega)).toNat : Int)) ((s[k + 3]'(by omega)).toNat : Int) (by omega) (by omega) (by omega) hb3
    go_enter Tryz.func131, Tryz.ntmps131
    go_wp2_with fail
    refine (isw_yes 4 (.inr (.inr rfl)) _).mono ?_
    rintro e w' ⟨rfl, rfl⟩
    go_wp2_with fail
    refine (within_yes s k hs hk _).mono ?_
    rintro e w' ⟨rfl, rfl⟩
    go_wp2
    refine wp_loop_rounds 5 ?_
    iterate 5 (rw [rounds_succ]; go_wp2)
    go_ret3
    exact ⟨ret_three hg.out, rfl⟩
  · have hg := Lib.hid (VP.rd_4few s k hk h)
    go_enter Tryz.func131, Tryz.ntmps131
    go_wp2_with fail
    refine (isw_yes 4 (.inr (.inr rfl)) _).mono ?_
    rintro e w' ⟨rfl, rfl⟩
    go_wp2_with fail
    refine (within_yes s k hs hk _).mono ?_
    rintro e w' ⟨rfl, rfl⟩
    go_wp2
    go_ret3
    exact ⟨ret_three hg.out, rfl⟩

theorem read_any (s : ByteArray) (at_ wd : Int) (hs : s.size ≤ maxLen) (w : World) :
    Calls Tryz.prog 131 #[.string s, .int .i64 at_, .int .i64 wd] w fun e w' => e = .returned (.tuple #[.int .i64 (VP.rd s at_ wd).1, .int .i64 (VP.rd s at_ wd).2.1, .int .u8 (VP.rd s at_ wd).2.2]) ∧ w = w' := by
  by_cases hw : VP.isW wd
  · by_cases h : at_ < 0 ∨ (s.size : Int) < at_
    · rw [VP.rd_out s at_ wd h]
      have H := Lib.hid h
      have HW := Lib.hid hw
      clear h hw
      go_enter Tryz.func131, Tryz.ntmps131
      go_wp2_with fail
      refine (isw_yes wd HW.out _).mono ?_
      rintro e w' ⟨rfl, rfl⟩
      go_wp2_with fail
      refine (within_no s at_ hs H.out _).mono ?_
      rintro e w' ⟨rfl, rfl⟩
      go_wp2
      go_ret3
      exact ⟨rfl, rfl⟩
    · obtain ⟨k, rfl⟩ := Int.eq_ofNat_of_zero_le (show 0 ≤ at_ by omega)
      rcases hw with rfl | rfl | rfl
      · exact read_1 s k hs (by omega) w
      · exact read_2 s k hs (by omega) w
      · exact read_4 s k hs (by omega) w
  · rw [VP.rd_no s at_ wd hw]
    have HW := Lib.hid hw
    clear hw
    go_enter Tryz.func131, Tryz.ntmps131
    go_wp2_with fail
    refine (isw_no wd HW.out _).mono ?_
    rintro e w' ⟨rfl, rfl⟩
    go_wp2
    go_ret3
    exact ⟨rfl, rfl⟩

end Go.Proofs.YtemfcaaoobjgkaaGreatDoor
