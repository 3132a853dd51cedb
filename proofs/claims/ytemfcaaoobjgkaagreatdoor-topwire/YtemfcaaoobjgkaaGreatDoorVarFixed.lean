/- The function that tells a fixed number's bytes answers the plain bytes and code. -/
import Derived.Test.YtemfcaaoobjgkaaGreatDoorVarBytes
import Derived.Test.YtemfcaaoobjgkaaGreatDoorVarPureFix
namespace Go.Proofs.YtemfcaaoobjgkaaGreatDoor
open Go.RowKit

set_option maxHeartbeats 1000000 in
theorem fixed_any (wd n : Int) (hr : -9223372036854775808 ≤ n) (hr' : n ≤ 9223372036854775807) (w : World) :
    Calls Tryz.prog 28 #[.int .i64 wd, .int .i64 n] w fun e w' => e = .returned (.tuple #[.string (strOfNums (VP.fixL wd n)), .int .u8 (VP.fixC wd n)]) ∧ Below w.heap.size w w' := by
  by_cases hw : VP.isW wd
  · rcases hw with rfl | rfl | rfl
    · by_cases hn : n < 0
      · rw [(VP.fix_1out (.inl hn)).1, (VP.fix_1out (.inl hn)).2]
        go_enter Tryz.func28, Tryz.ntmps28
        go_wp2
        go_ret2
        exact ⟨rfl, Below.refl _ _⟩
      · by_cases hn2 : 255 < n
        · rw [(VP.fix_1out (.inr hn2)).1, (VP.fix_1out (.inr hn2)).2]
          have hq : (n / 256 != 0) = true := by rw [bne_iff_ne]; omega
          go_enter Tryz.func28, Tryz.ntmps28
          go_wp2
          go_ret2
          exact ⟨rfl, Below.refl _ _⟩
        · have hl := Lib.hid (VP.fix_1 (n := n) (by omega) (by omega))
          have hq : (n / 256 != 0) = false := by rw [bne_eq_false_iff_eq]; omega
          have h0 : 0 ≤ n := by omega
          have h1 : n ≤ 255 := by omega
          clear hn hn2
          have hmk := make1
          have hcv := conv1
          go_enter Tryz.func28, Tryz.ntmps28
          go_wp2
          refine wp_loop_rounds 2 ?_
          iterate 2 (rw [rounds_succ]; go_wp2)
          go_ret2
          refine ⟨ret_bytes ?_ hl.out.2.symm, (Below.refl _ _).alloc (Nat.le_refl _) _⟩
          rw [hl.out.1]
    · by_cases hn : n < 0
      · rw [(VP.fix_2out (.inl hn)).1, (VP.fix_2out (.inl hn)).2]
        go_enter Tryz.func28, Tryz.ntmps28
        go_wp2
        go_ret2
        exact ⟨rfl, Below.refl _ _⟩
      · by_cases hn2 : 65535 < n
        · rw [(VP.fix_2out (.inr hn2)).1, (VP.fix_2out (.inr hn2)).2]
          have hq : (n / 65536 != 0) = true := by rw [bne_iff_ne]; omega
          go_enter Tryz.func28, Tryz.ntmps28
          go_wp2
          go_ret2
          exact ⟨rfl, Below.refl _ _⟩
        · have hl := Lib.hid (VP.fix_2 (n := n) (by omega) (by omega))
          have hq : (n / 65536 != 0) = false := by rw [bne_eq_false_iff_eq]; omega
          have h0 : 0 ≤ n := by omega
          have h1 : n ≤ 65535 := by omega
          clear hn hn2
          have hmk := make2
          have hcv := conv2
          go_enter Tryz.func28, Tryz.ntmps28
          go_wp2
          refine wp_loop_rounds 3 ?_
          iterate 3 (rw [rounds_succ]; go_wp2)
          go_ret2
          refine ⟨ret_bytes ?_ hl.out.2.symm, (Below.refl _ _).alloc (Nat.le_refl _) _⟩
          rw [hl.out.1]
    · by_cases hn : n < 0
      · rw [(VP.fix_4out (.inl hn)).1, (VP.fix_4out (.inl hn)).2]
        go_enter Tryz.func28, Tryz.ntmps28
        go_wp2
        go_ret2
        exact ⟨rfl, Below.refl _ _⟩
      · by_cases hn2 : 4294967295 < n
        · rw [(VP.fix_4out (.inr hn2)).1, (VP.fix_4out (.inr hn2)).2]
          have hq : (n / 4294967296 != 0) = true := by rw [bne_iff_ne]; omega
          go_enter Tryz.func28, Tryz.ntmps28
          go_wp2
          go_ret2
          exact ⟨rfl, Below.refl _ _⟩
        · have hl := Lib.hid (VP.fix_4 (n := n) (by omega) (by omega))
          have hq : (n / 4294967296 != 0) = false := by rw [bne_eq_false_iff_eq]; omega
          have h0 : 0 ≤ n := by omega
          have h1 : n ≤ 4294967295 := by omega
          clear hn hn2
          have hmk := make4
          have hcv := conv4
          go_enter Tryz.func28, Tryz.ntmps28
          go_wp2
          refine wp_loop_rounds 5 ?_
          iterate 5 (rw [rounds_succ]; go_wp2)
          go_ret2
          refine ⟨ret_bytes ?_ hl.out.2.symm, (Below.refl _ _).alloc (Nat.le_refl _) _⟩
          rw [hl.out.1]
  · rw [(VP.fix_no hw).1, (VP.fix_no hw).2]
    unfold VP.isW at hw
    have e1 : (wd == 1) = false := by rw [beq_eq_false_iff_ne]; omega
    have e2 : (wd == 2) = false := by rw [beq_eq_false_iff_ne]; omega
    have e4 : (wd == 4) = false := by rw [beq_eq_false_iff_ne]; omega
    clear hw
    go_enter Tryz.func28, Tryz.ntmps28
    go_wp2
    go_ret2
    exact ⟨rfl, Below.refl _ _⟩

end Go.Proofs.YtemfcaaoobjgkaaGreatDoor
